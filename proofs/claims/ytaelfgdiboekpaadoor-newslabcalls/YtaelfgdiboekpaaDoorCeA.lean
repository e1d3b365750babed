import Derived.Laws.BitsAllLaws
import Derived.Laws.BitsLemmas
import Derived.Laws.CopyOwn
import Derived.Test.YtaelfgdiboekpaaDoorRows
import Derived.WalkKit
import Derived.WalkSpells
import Derived.WalkLawsBesides
import Derived.Deep.QuietTactic
import Derived.BigQuiet
import Derived.Deep.RegionHeld3
import Derived.Deep.RegionLaw
import Derived.Deep.AppendLies
import Derived.Laws.AppendOwnNone
import Derived.Deep.OwnRows
import Derived.Lib.Hide
/-
  Plain facts on bytes and words, of which no statement of its own is claimed: words as bit vectors, rows of bytes, numbers that are made of bytes.
-/
namespace Go.Proofs.YtaelfgdiboekpaaDoor.Ce
set_option maxRecDepth 100000

/-- A word as the number that it is. -/
def u (x : BitVec 64) : Int := (x.toNat : Int)
/-- A byte as the number that it is. -/
def y (x : BitVec 8) : Int := (x.toNat : Int)

theorem u_inj {a b : BitVec 64} (h : u a = u b) : a = b := by
  unfold u at h; exact BitVec.eq_of_toNat_eq (by omega)
theorem u_beq (a b : BitVec 64) : (u a == u b) = (a == b) := by
  rw [Bool.eq_iff_iff]; simp only [beq_iff_eq]; exact ⟨u_inj, fun h => by rw [h]⟩
theorem u_bne (a b : BitVec 64) : (u a != u b) = (a != b) := by rw [bne, bne, u_beq]
theorem u_of (n : Int) (h0 : 0 ≤ n) (h1 : n < 18446744073709551616) : ∃ x : BitVec 64, n = u x :=
  ⟨BitVec.ofNat 64 n.toNat, by unfold u; rw [BitVec.toNat_ofNat, Nat.mod_eq_of_lt (by omega)]; omega⟩
theorem y_inj {a b : BitVec 8} (h : y a = y b) : a = b := by
  unfold y at h; exact BitVec.eq_of_toNat_eq (by omega)
theorem y_beq (a b : BitVec 8) : (y a == y b) = (a == b) := by
  rw [Bool.eq_iff_iff]; simp only [beq_iff_eq]; exact ⟨y_inj, fun h => by rw [h]⟩
theorem y_bne (a b : BitVec 8) : (y a != y b) = (a != b) := by rw [bne, bne, y_beq]
theorem y_of (n : Int) (h0 : 0 ≤ n) (h1 : n < 256) : ∃ x : BitVec 8, n = y x :=
  ⟨BitVec.ofNat 8 n.toNat, by unfold y; rw [BitVec.toNat_ofNat, Nat.mod_eq_of_lt (by omega)]; omega⟩
theorem y_nonneg (a : BitVec 8) : 0 ≤ y a := by unfold y; omega
theorem y_lt (a : BitVec 8) : y a < 256 := by unfold y; have := a.isLt; omega
theorem and_u (a b : BitVec 64) : bits .and .u64 (u a) (u b) = u (a &&& b) := by
  unfold u; rw [u64_and_nat _ _ a.isLt b.isLt, BitVec.toNat_and]
theorem or_u (a b : BitVec 64) : bits .or .u64 (u a) (u b) = u (a ||| b) := by
  unfold u; rw [u64_or_nat _ _ a.isLt b.isLt, BitVec.toNat_or]
theorem shl_u (x : BitVec 64) (n : Nat) : IntKind.u64.wrap (u x * 2 ^ n) = u (x <<< n) := by
  unfold u; rw [IntKind.wrap_u64, BitVec.toNat_shiftLeft, Nat.shiftLeft_eq]
  have : ((x.toNat : Int) * 2 ^ n) = ((x.toNat * 2 ^ n : Nat) : Int) := by rw [Int.natCast_mul, Int.natCast_pow]; rfl
  rw [this]; omega
theorem shr_u (x : BitVec 64) (n : Nat) : u x / 2 ^ n = u (x >>> n) := by
  unfold u; rw [BitVec.toNat_ushiftRight, Nat.shiftRight_eq_div_pow]
  have : ((2 : Int) ^ n) = ((2 ^ n : Nat) : Int) := by rw [Int.natCast_pow]; rfl
  rw [this, Int.natCast_ediv]
theorem u_y (a : BitVec 8) : y a = u (a.setWidth 64) := by
  unfold u y; rw [BitVec.toNat_setWidth, Nat.mod_eq_of_lt (by have := a.isLt; omega)]
theorem y_u (x : BitVec 64) : IntKind.u8.wrap (u x) = y (x.setWidth 8) := by
  unfold u y; rw [IntKind.wrap_u8, BitVec.toNat_setWidth]; omega
theorem mul_u (a b : BitVec 64) : IntKind.u64.wrap (u a * u b) = u (a * b) := by
  unfold u; rw [IntKind.wrap_u64, BitVec.toNat_mul, ← Int.natCast_mul]; omega
theorem add_u (a b : BitVec 64) : IntKind.u64.wrap (u a + u b) = u (a + b) := by
  unfold u; rw [IntKind.wrap_u64, BitVec.toNat_add]; omega
theorem sub_u (a b : BitVec 64) : IntKind.u64.wrap (u a - u b) = u (a - b) := by
  unfold u; rw [IntKind.wrap_u64, BitVec.toNat_sub]; have := a.isLt; have := b.isLt; omega

/-! ### Numbers that are made of bytes -/
/-- From the lowest byte on. -/
def ld (f : Nat → BitVec 8) : Nat → BitVec 64
  | 0 => 0#64
  | k + 1 => ld f k ||| ((f k).setWidth 64 <<< (8 * k))
/-- From the highest byte on: k bytes up to n. -/
def hd (f : Nat → BitVec 8) (n : Nat) : Nat → BitVec 64
  | 0 => 0#64
  | k + 1 => hd f n k * 256#64 + (f (n - (k + 1))).setWidth 64
/-- One byte of a word. -/
def by8 (v : BitVec 64) (i : Nat) : BitVec 8 := (v >>> (8 * i)).setWidth 8
/-- The lowest bytes of a word. -/
def bytesOf (v : BitVec 64) (n : Nat) : List (BitVec 8) := (List.range n).map (by8 v)
theorem bytesOf_length (v : BitVec 64) (n : Nat) : (bytesOf v n).length = n := by simp [bytesOf]
theorem bytesOf_succ (v : BitVec 64) (n : Nat) : bytesOf v (n + 1) = bytesOf v n ++ [by8 v n] := by simp [bytesOf, List.range_succ]
theorem bytesOf_getD (v : BitVec 64) (n i : Nat) (h : i < n) : (bytesOf v n).getD i 0#8 = by8 v i := by
  rw [List.getD_eq_getElem?_getD, bytesOf, List.getElem?_map, List.getElem?_range h]; rfl

theorem ld_bit (f : Nat → BitVec 8) : ∀ (n : Nat), n ≤ 8 → ∀ i, (ld f n).getLsbD i = (decide (i < 8 * n) && (f (i / 8)).getLsbD (i % 8))
  | 0, _, i => by simp [ld]
  | k + 1, hk, i => by
    rw [ld, BitVec.getLsbD_or, ld_bit f k (by omega) i, BitVec.getLsbD_shiftLeft, BitVec.getLsbD_setWidth]
    by_cases h1 : i < 8 * k
    · have h2 : i < 8 * (k + 1) := by omega
      simp [h1, h2]
    · by_cases h2 : i < 8 * (k + 1)
      · have e1 : i / 8 = k := by omega
        have e2 : i % 8 = i - 8 * k := by omega
        have h3 : i < 64 := by omega
        have h4 : i - 8 * k < 64 := by omega
        simp [h1, h2, h3, h4, e1, e2]
      · have : (f k).getLsbD (i - 8 * k) = false := BitVec.getLsbD_of_ge _ _ (by omega)
        simp [h1, h2, this]
theorem mul256 (x : BitVec 64) : x * 256#64 = x <<< 8 := by
  apply BitVec.eq_of_toNat_eq; rw [BitVec.toNat_mul, BitVec.toNat_shiftLeft, Nat.shiftLeft_eq]; rfl
theorem shl_add (x : BitVec 64) (b : BitVec 8) : x <<< 8 + b.setWidth 64 = x <<< 8 ||| b.setWidth 64 := by
  apply BitVec.add_eq_or_of_and_eq_zero
  apply BitVec.eq_of_getLsbD_eq
  intro i hi
  rw [BitVec.getLsbD_and, BitVec.getLsbD_shiftLeft, BitVec.getLsbD_setWidth, BitVec.getLsbD_zero]
  by_cases h : i < 8
  · simp [h]
  · rw [BitVec.getLsbD_of_ge b i (by omega)]; simp
theorem hd_bit (f : Nat → BitVec 8) (n : Nat) (hn : n ≤ 8) : ∀ (k : Nat), k ≤ n → ∀ i, (hd f n k).getLsbD i = (decide (i < 8 * k) && (f (n - k + i / 8)).getLsbD (i % 8))
  | 0, _, i => by simp [hd]
  | k + 1, hk, i => by
    rw [hd, mul256, shl_add, BitVec.getLsbD_or, BitVec.getLsbD_shiftLeft, BitVec.getLsbD_setWidth]
    by_cases h1 : i < 8
    · have e1 : i / 8 = 0 := by omega
      have e2 : i % 8 = i := by omega
      have h2 : i < 8 * (k + 1) := by omega
      have h3 : i < 64 := by omega
      simp [h1, h2, h3, e1, e2]
    · rw [hd_bit f n hn k (by omega) (i - 8), BitVec.getLsbD_of_ge (f (n - (k + 1))) i (by omega)]
      by_cases h2 : i < 8 * (k + 1)
      · have e1 : n - k + (i - 8) / 8 = n - (k + 1) + i / 8 := by omega
        have e2 : (i - 8) % 8 = i % 8 := by omega
        have h3 : i < 64 := by omega
        have h4 : i - 8 < 8 * k := by omega
        simp [h1, h2, h3, h4, e1, e2]
      · have h4 : ¬ i - 8 < 8 * k := by omega
        simp [h1, h2, h4]
theorem hd_ld (f : Nat → BitVec 8) (n : Nat) (hn : n ≤ 8) : hd f n n = ld f n := by
  apply BitVec.eq_of_getLsbD_eq
  intro i _
  rw [hd_bit f n hn n (Nat.le_refl _) i, ld_bit f n hn i, Nat.sub_self, Nat.zero_add]
theorem by8_bit (v : BitVec 64) (k i : Nat) : (by8 v k).getLsbD i = (decide (i < 8) && v.getLsbD (8 * k + i)) := by
  unfold by8; rw [BitVec.getLsbD_setWidth, BitVec.getLsbD_ushiftRight]
/-- What is stored is loaded: the lowest bytes of the word. -/
theorem ld_congr {f g : Nat → BitVec 8} : ∀ {n : Nat}, (∀ i, i < n → f i = g i) → ld f n = ld g n
  | 0, _ => rfl
  | k + 1, h => by rw [ld, ld, ld_congr (n := k) (fun i hi => h i (by omega)), h k (by omega)]
theorem ld_by8 (v : BitVec 64) (n : Nat) (hn : n ≤ 8) (i : Nat) : (ld (by8 v) n).getLsbD i = (decide (i < 8 * n) && v.getLsbD i) := by
  rw [ld_bit _ n hn i, by8_bit]
  have e1 : 8 * (i / 8) + i % 8 = i := by omega
  have h : i % 8 < 8 := by omega
  rw [e1]; simp [h]
theorem ld_by8_whole (v : BitVec 64) : ld (by8 v) 8 = v := by
  apply BitVec.eq_of_getLsbD_eq
  intro i hi
  rw [ld_by8 v 8 (Nat.le_refl _) i]
  have : i < 8 * 8 := by omega
  simp [this]
theorem ld_by8_low (v : BitVec 64) (n : Nat) (hn : n < 8) : ld (by8 v) n = v &&& (1#64 <<< (8 * n) - 1#64) := by
  apply BitVec.eq_of_getLsbD_eq
  intro i hi
  have e : 1#64 <<< (8 * n) - 1#64 = BitVec.ofNat 64 (2 ^ (8 * n) - 1) := by
    rcases (by omega : n = 0 ∨ n = 1 ∨ n = 2 ∨ n = 3 ∨ n = 4 ∨ n = 5 ∨ n = 6 ∨ n = 7) with rfl | rfl | rfl | rfl | rfl | rfl | rfl | rfl <;> decide
  rw [ld_by8 v n (by omega) i, BitVec.getLsbD_and, e, BitVec.getLsbD_ofNat, Nat.testBit_two_pow_sub_one]
  simp [hi, Bool.and_comm]

/-! ### Rows of bytes -/
theorem splice_length {α : Type} {L cs : List α} {off : Nat} (h : off + cs.length ≤ L.length) : (splice L off cs).length = L.length := length_splice L off cs h
theorem splice_nil {α : Type} (L : List α) (off : Nat) : splice L off [] = L := by simp [splice]
theorem splice_getElem? {α : Type} (L cs : List α) (off i : Nat) (h : off + cs.length ≤ L.length) :
    (splice L off cs)[i]? = if off ≤ i ∧ i < off + cs.length then cs[i - off]? else L[i]? := by
  have e : min off L.length = off := by omega
  unfold splice
  rw [List.getElem?_append, List.length_take, e]
  by_cases h1 : i < off
  · rw [if_pos h1, if_neg (by omega), List.getElem?_take, if_pos h1]
  · rw [if_neg h1, List.getElem?_append]
    by_cases h2 : i - off < cs.length
    · rw [if_pos h2, if_pos (by omega)]
    · rw [if_neg h2, if_neg (by omega), List.getElem?_drop]; congr 1; omega
theorem splice_getD (L cs : List (BitVec 8)) (off i : Nat) (h : off + cs.length ≤ L.length) :
    (splice L off cs).getD i 0#8 = if off ≤ i ∧ i < off + cs.length then cs.getD (i - off) 0#8 else L.getD i 0#8 := by
  simp only [List.getD_eq_getElem?_getD, splice_getElem? L cs off i h]; split <;> rfl
theorem splice_set {α : Type} (L cs : List α) (off : Nat) (x : α) (h : off + cs.length < L.length) :
    (splice L off cs).set (off + cs.length) x = splice L off (cs ++ [x]) := by
  apply List.ext_getElem?
  intro i
  rw [List.getElem?_set, splice_length (by omega), splice_getElem? L cs off i (by omega), splice_getElem? L _ off i (by simp; omega), List.length_append, List.length_singleton]
  by_cases h1 : off + cs.length = i
  · subst h1
    rw [if_pos rfl, if_pos h, if_pos (by omega), List.getElem?_append_right (by omega)]
    simp
  · rw [if_neg h1]
    by_cases h2 : off ≤ i ∧ i < off + cs.length
    · rw [if_pos h2, if_pos (by omega), List.getElem?_append_left (by omega)]
    · rw [if_neg h2, if_neg (by omega)]

end Go.Proofs.YtaelfgdiboekpaaDoor.Ce

/-
  What a memory is, as the walk meets it: a row of bytes, and the cell that names it; laws on both that the claimed proofs use.
-/
namespace Go.Proofs.YtaelfgdiboekpaaDoor.Ce
set_option maxRecDepth 100000
open Go.RowKit

theorem ret_u {a b : Int} (h : a = b) : Ending.returned (.int .u64 a) = .returned (.int .u64 b) := by rw [h]
theorem ret_b {a b : Bool} (h : a = b) : Ending.returned (.bool a) = .returned (.bool b) := by rw [h]
theorem ret_ue {a b : Int} {c : Int} (h : a = b) : Ending.returned (.tuple #[.int .u64 a, .int .i64 c]) = .returned (.tuple #[.int .u64 b, .int .i64 c]) := by rw [h]

/-! ### Worlds -/
theorem grown_refl (w : World) (r : Option Nat) : w.grownBy w r := ⟨rfl, rfl, rfl, Nat.le_refl _, fun _ _ _ => rfl⟩
theorem grown_trans {a b c : World} {r : Option Nat} (h : a.grownBy b r) (k : b.grownBy c r) : a.grownBy c r :=
  ⟨k.os.trans h.os, k.tape.trans h.tape, k.output.trans h.output, Nat.le_trans h.size k.size, fun i hi hr => (k.block i (Nat.lt_of_lt_of_le hi h.size) hr).trans (h.block i hi hr)⟩
theorem grown_drew {a b : World} {r : Option Nat} (h : a.grownBy b r) : a.grownBy b.drew r := ⟨h.os, h.tape, h.output, h.size, h.block⟩
theorem grown_set {a b : World} {g i : Nat} {v : Value} (h : a.grownBy b (some g)) : a.grownBy (b.setCell ⟨g, i, none⟩ v) (some g) :=
  grown_trans h ⟨rfl, rfl, rfl, by simp [World.setCell], fun k _ hr => Below.heap_setCell _ _ _ _ (fun e => hr (by rw [e]))⟩
theorem grown_below {a b : World} {r : Option Nat} (h : Below a.heap.size a b) : a.grownBy b r := ⟨h.os, h.tape, h.output, h.size, fun k hk _ => h.block k hk⟩
theorem below_grown {B g : Nat} {a b c : World} (h : Below B a b) (k : b.grownBy c (some g)) (hB : B ≤ b.heap.size) (hg : B ≤ g) : Below B a c := h.grown k hB (fun _ e => by cases e; exact hg)
theorem up_trans {w W w2 : World} (h : Below w.heap.size w W) (h2 : Below W.heap.size W w2) : Below w.heap.size w w2 := h.trans (h2.mono h.size)
theorem up_alloc {w W : World} (h : Below w.heap.size w W) (o : Obj) : Below w.heap.size w (W.alloc o) := h.alloc h.size o
theorem up_drew {w W : World} (h : Below w.heap.size w W) : ∀ k, Below w.heap.size w (W.drewN k)
  | 0 => h
  | k + 1 => (up_drew h k).drew

/-! ### Rows -/
def row (bs : List (BitVec 8)) : List Value := bs.map fun x => Value.int .u8 (y x)
theorem row_length (bs : List (BitVec 8)) : (row bs).length = bs.length := by simp [row]
theorem row_one (bs : List (BitVec 8)) : ∀ v ∈ row bs, v.oneCell' = true := by
  intro v hv; obtain ⟨x, _, rfl⟩ := List.mem_map.1 hv; rfl
theorem row_splice (L cs : List (BitVec 8)) (off : Nat) : splice (row L) off (row cs) = row (splice L off cs) := by simp [splice, row]
theorem row_get {bs : List (BitVec 8)} {i : Nat} (h : i < bs.length) : (row bs)[i]? = some (.int .u8 (y (bs.getD i 0#8))) := by
  rw [row, List.getElem?_map, List.getD_eq_getElem?_getD, List.getElem?_eq_getElem h]; rfl
/-- A row of bytes, a block whole. -/
def Row (w : World) (g : Nat) (bs : List (BitVec 8)) : Prop := w.heap[g]? = some (.cells (row bs).toArray 5 (0, 0))
/-- A memory: the cell at q names the row g. -/
def Mem (w : World) (q g : Nat) (bs : List (BitVec 8)) : Prop := w.heap[q]? = some (.cells #[.slice (some ⟨g, 0, none⟩) bs.length bs.length] 98 (0, 0)) ∧ Row w g bs ∧ bs.length ≤ 1048576
theorem Row.cell {w : World} {g i : Nat} {bs : List (BitVec 8)} (h : Row w g bs) (hi : i < bs.length) : w.cell? ⟨g, i, none⟩ = some (.int .u8 (y (bs.getD i 0#8))) := by
  rw [cell_of_row w g i _ 5 (0, 0) h]; simpa using row_get hi
theorem Row.frozen {w : World} {g : Nat} {bs : List (BitVec 8)} (h : Row w g bs) (i : Nat) : w.frozen? ⟨g, i, none⟩ = false := frozen_of_row w g i _ 5 h
theorem Row.lt {w : World} {g : Nat} {bs : List (BitVec 8)} (h : Row w g bs) : g < w.heap.size := (Array.getElem?_eq_some_iff.1 h).1
theorem Row.of_block {w w' : World} {g : Nat} {bs : List (BitVec 8)} (h : Row w g bs) (e : w'.heap[g]? = w.heap[g]?) : Row w' g bs := e.trans h
theorem Row.set {w : World} {g i : Nat} {bs : List (BitVec 8)} (h : Row w g bs) (x : BitVec 8) : Row (w.setCell ⟨g, i, none⟩ (.int .u8 (y x))) g (bs.set i x) := by
  have := heap_setCell_same w g i _ 5 (.int .u8 (y x)) h
  unfold Row
  rw [this, row, row, List.map_set]
  simp
theorem Row.made (w : World) (n : Nat) : Row (w.alloc (.cells (madeCells #[.int .u8 0] n) 5)) w.heap.size (List.replicate n 0#8) := by
  unfold Row
  rw [heap_alloc_new]
  congr 2
  apply Array.ext'
  rw [toList_madeCells_one]
  simp [row, y]
theorem Mem.cell {w : World} {q g : Nat} {bs : List (BitVec 8)} (h : Mem w q g bs) : w.cell? ⟨q, 0, none⟩ = some (.slice (some ⟨g, 0, none⟩) bs.length bs.length) := by
  rw [cell_of_row w q 0 _ 98 (0, 0) h.1]; rfl
theorem Mem.lt {w : World} {q g : Nat} {bs : List (BitVec 8)} (h : Mem w q g bs) : q < w.heap.size := (Array.getElem?_eq_some_iff.1 h.1).1
theorem Mem.ne {w : World} {q g : Nat} {bs : List (BitVec 8)} (h : Mem w q g bs) : q ≠ g := fun e => by
  have h1 := h.1; rw [e, h.2.1] at h1; simp at h1
theorem Mem.of_blocks {w w' : World} {q g : Nat} {bs : List (BitVec 8)} (h : Mem w q g bs) (e : w'.heap[q]? = w.heap[q]?) (e2 : w'.heap[g]? = w.heap[g]?) : Mem w' q g bs := ⟨e.trans h.1, h.2.1.of_block e2, h.2.2⟩
theorem Mem.below {w w' : World} {q g : Nat} {bs : List (BitVec 8)} (h : Mem w q g bs) (hb : Below w.heap.size w w') : Mem w' q g bs := h.of_blocks (hb.block q h.lt) (hb.block g h.2.1.lt)
theorem Mem.far {w w' : World} {q g k : Nat} {bs : List (BitVec 8)} (h : Mem w q g bs) (hb : w.grownBy w' (some k)) (h1 : q ≠ k) (h2 : g ≠ k) : Mem w' q g bs :=
  h.of_blocks (hb.block q h.lt (by simpa using h1)) (hb.block g h.2.1.lt (by simpa using h2))
theorem Mem.turned {w w' : World} {q g : Nat} {bs cs : List (BitVec 8)} (h : Mem w q g bs) (hb : w.grownBy w' (some g)) (hr : Row w' g cs) (hl : cs.length = bs.length) : Mem w' q g cs := by
  refine ⟨?_, hr, by rw [hl]; exact h.2.2⟩
  rw [hb.block q h.lt (by simpa using h.ne), h.1, hl]
theorem Mem.drew {w : World} {q g : Nat} {bs : List (BitVec 8)} (h : Mem w q g bs) : Mem w.drew q g bs := h
theorem Mem.made (w : World) (n : Nat) (hn : n ≤ 1048576) : Mem ((w.alloc (.cells (madeCells #[.int .u8 0] n) 5)).alloc (.cells #[.slice (some ⟨w.heap.size, 0, none⟩) n n] 98)) (w.heap.size + 1) w.heap.size (List.replicate n 0#8) := by
  refine ⟨?_, ?_, by simpa using hn⟩
  · have := heap_alloc_new (w.alloc (.cells (madeCells #[.int .u8 0] n) 5)) (.cells #[.slice (some ⟨w.heap.size, 0, none⟩) n n] 98)
    simpa using this
  · exact (Row.made w n).of_block (Below.heap_alloc _ _ _ (by simp))

theorem byte_info : (Tryd.prog.info? 5).map (fun i => (i.zero, i.size, i.bytes)) = some (some (.int .u8 0), 1, 1) := by kernel_rfl
theorem byte_size : (Tryd.prog.info? 5).map (·.size) = some 1 := by kernel_rfl
theorem make_bytes (n : Nat) (hn : n ≤ 1048576) (W : World) :
    (Instr.makeSlice 45 (.int .i64 (n : Int)) (.int .i64 (n : Int))).run Tryd.prog W = .ok (.slice (some ⟨W.heap.size, 0, none⟩) n n) (W.alloc (.cells (madeCells #[.int .u8 0] n) 5)) := by
  obtain ⟨i, hi, hp⟩ := Option.map_eq_some_iff.1 byte_info
  simp only [Prod.mk.injEq] at hp
  obtain ⟨hz, hs, hb⟩ := hp
  have := run_make (P := Tryd.prog) W 45 5 i (.int .u8 0) Tryd.underlying45 hi hz .i64 .i64 n n (by omega) (by omega) (by rw [hb]; omega) (by omega)
  rw [hs] at this
  simpa [Value.cells] using this

/-- copy into a row that is known whole. -/
theorem copy_law {w : World} {ops : Array Oper} {rest : List Oper} {o : Oper} {a : Act} {Q : Exit → Act → World → Prop} (hgd : o.guard = none) (d s : Operand)
    (ho : o.op = .call { callee := .builtin .copy, args := #[d, s], argTypes := #[45, 45] })
    (dp sp : Option Addr) (dLen dCap sLen sCap : Nat) (hd : a.eval d = .slice dp dLen dCap) (hs : a.eval s = .slice sp sLen sCap)
    (g off : Nat) (cur cs : List (BitVec 8)) (hg : Row w g cur) (hn : cs.length = Nat.min sLen dLen)
    (hpos : 0 < cs.length → dp = some ⟨g, off, none⟩ ∧ ∃ sb so, sp = some ⟨sb, so, none⟩ ∧ ∀ j, j < cs.length → w.cell? ⟨sb, so + j, none⟩ = some (.int .u8 (y (cs.getD j 0#8))))
    (hfit : off + cs.length ≤ cur.length)
    (h : ∀ w', Hid (Row w' g (splice cur off cs)) → Hid (w.grownBy w' (some g)) → wpList Tryd.prog ops Q rest (a.put o.dst (goInt cs.length)) w') :
    wpList Tryd.prog ops Q (o :: rest) a w := by
  by_cases h0 : cs.length = 0
  · obtain rfl : cs = [] := List.eq_nil_of_length_eq_zero h0
    refine wpList_copy_nothing hgd d s 45 45 ho 5 Tryd.underlying45 byte_size dp sp dLen dCap sLen sCap hd hs (by simpa using hn.symm) ?_
    exact h w (by rw [splice_nil]; exact hg) (grown_refl _ _)
  · obtain ⟨rfl, sb, so, rfl, hsrc⟩ := hpos (by omega)
    refine wpList_copy_own hgd d s 45 45 ho 5 Tryd.underlying45 byte_size g off dLen dCap ⟨sb, so, none⟩ sLen sCap hd hs (row cur).toArray 5 hg (row cs) (by rw [row_length]; exact hn) ?_ (by simpa [row_length] using hfit) (row_one cs) ?_
    · intro j v hv
      have hj : j < cs.length := by
        rcases Nat.lt_or_ge j cs.length with hj | hj
        · exact hj
        · rw [List.getElem?_eq_none (by rw [row_length]; exact hj)] at hv; cases hv
      rw [row_get hj] at hv
      cases hv
      have e : (⟨sb, so, none⟩ : Addr).add j = ⟨sb, so + j, none⟩ := by unfold Addr.add; split <;> simp_all
      rw [e]; exact hsrc j hj
    · rw [row_length]
      refine h _ (show _ = _ from ?_) ⟨rfl, rfl, rfl, by simp [World.setRow], fun k _ hk => setRow_other w g k _ (fun e => hk (by rw [e]))⟩
      have := setRow_heap w g _ ((row cur).take off ++ (row cs ++ (row cur).drop (off + cs.length))).toArray 5 _ hg
      rw [show (row cur).toArray.toList = row cur from rfl, this, ← row_splice, splice, row_length]

end Go.Proofs.YtaelfgdiboekpaaDoor.Ce

/-
  What the small functions do: contracts that the claimed proofs use.
-/
namespace Go.Proofs.YtaelfgdiboekpaaDoor.Ce
set_option maxRecDepth 100000
open Go.RowKit

/-- Are so many bytes from an address on within so many? -/
def hasB (L : Nat) (s n : Int) : Bool := decide (0 ≤ s ∧ 0 ≤ n ∧ s + n ≤ L)
theorem hasB_iff {L : Nat} {s n : Int} : hasB L s n = true ↔ 0 ≤ s ∧ 0 ≤ n ∧ s + n ≤ L := by simp [hasB]
theorem hasB_not {L : Nat} {s n : Int} : hasB L s n = false ↔ ¬ (0 ≤ s ∧ 0 ≤ n ∧ s + n ≤ L) := by simp only [hasB, decide_eq_false_iff_not]
def widthB (n : Int) : Bool := decide (n = 1 ∨ n = 2 ∨ n = 4 ∨ n = 8)
theorem widthB_iff {n : Int} : widthB n = true ↔ n = 1 ∨ n = 2 ∨ n = 4 ∨ n = 8 := by simp [widthB]

theorem isWidth_any (n : Int) (w : World) : Calls Tryd.prog 83 #[.int .i64 n] w fun e w' => e = .returned (.bool (widthB n)) ∧ w = w' := by
  by_cases h : n = 1 ∨ n = 2 ∨ n = 4 ∨ n = 8
  · rcases h with rfl | rfl | rfl | rfl <;>
    · go_enter Tryd.func83, Tryd.ntmps83
      go_wp2
      go_ret
      exact ⟨rfl, rfl⟩
  · have h1 : (n == 1) = false := by simp; omega
    have h2 : (n == 2) = false := by simp; omega
    have h4 : (n == 4) = false := by simp; omega
    have h8 : (n == 8) = false := by simp; omega
    have HN := Lib.hid h
    clear h
    go_enter Tryd.func83, Tryd.ntmps83
    go_wp2
    go_ret
    exact ⟨ret_b (by unfold widthB; symm; rw [decide_eq_false_iff_not]; exact HN.out), rfl⟩
theorem width_any (n : Int) (w : World) : Calls Tryd.prog 109 #[.int .i64 n] w fun e w' => e = .returned (.bool (widthB n)) ∧ w = w' := by
  by_cases h : n = 1 ∨ n = 2 ∨ n = 4 ∨ n = 8
  · rcases h with rfl | rfl | rfl | rfl <;>
    · go_enter Tryd.func109, Tryd.ntmps109
      go_wp2
      go_ret
      exact ⟨rfl, rfl⟩
  · have h1 : (n == 1) = false := by simp; omega
    have h2 : (n == 2) = false := by simp; omega
    have h4 : (n == 4) = false := by simp; omega
    have h8 : (n == 8) = false := by simp; omega
    have HN := Lib.hid h
    clear h
    go_enter Tryd.func109, Tryd.ntmps109
    go_wp2
    go_ret
    exact ⟨ret_b (by unfold widthB; symm; rw [decide_eq_false_iff_not]; exact HN.out), rfl⟩

theorem has_any (q g L : Nat) (s n : Int) (w : World) (hc : w.cell? ⟨q, 0, none⟩ = some (.slice (some ⟨g, 0, none⟩) L L)) (hL : L ≤ 1048576) (hs : s ≤ 9223372036854775807) :
    Calls Tryd.prog 61 #[.pointer (some ⟨q, 0, none⟩), .int .i64 s, .int .i64 n] w fun e w' => e = .returned (.bool (hasB L s n)) ∧ w = w' := by
  by_cases h0 : 0 ≤ s
  · by_cases h1 : 0 ≤ n
    · go_enter Tryd.func61, Tryd.ntmps61
      go_wp2
      go_ret
      exact ⟨ret_b (by unfold hasB; rw [decide_eq_decide]; omega), rfl⟩
    · have hd : decide (0 ≤ n) = false := by simpa using h1
      go_enter Tryd.func61, Tryd.ntmps61
      go_wp2
      go_ret
      exact ⟨ret_b (by unfold hasB; symm; rw [decide_eq_false_iff_not]; omega), rfl⟩
  · have hd : decide (0 ≤ s) = false := by simpa using h0
    go_enter Tryd.func61, Tryd.ntmps61
    go_wp2
    go_ret
    exact ⟨ret_b (by unfold hasB; symm; rw [decide_eq_false_iff_not]; omega), rfl⟩
theorem in_any (L : Nat) (s n : Int) (w : World) (hL : L ≤ 1048576) (hs : s ≤ 9223372036854775807) :
    Calls Tryd.prog 105 #[.int .i64 (L : Int), .int .i64 s, .int .i64 n] w fun e w' => e = .returned (.bool (hasB L s n)) ∧ w = w' := by
  by_cases h0 : 0 ≤ n
  · by_cases h1 : 0 ≤ s
    · by_cases h2 : s ≤ L
      · go_enter Tryd.func105, Tryd.ntmps105
        go_wp2
        go_ret
        exact ⟨ret_b (by unfold hasB; rw [decide_eq_decide]; omega), rfl⟩
      · have hd : decide (s ≤ (L : Int)) = false := by simpa using h2
        go_enter Tryd.func105, Tryd.ntmps105
        go_wp2
        go_ret
        exact ⟨ret_b (by unfold hasB; symm; rw [decide_eq_false_iff_not]; omega), rfl⟩
    · have hd : decide (0 ≤ s) = false := by simpa using h1
      go_enter Tryd.func105, Tryd.ntmps105
      go_wp2
      go_ret
      exact ⟨ret_b (by unfold hasB; symm; rw [decide_eq_false_iff_not]; omega), rfl⟩
  · have hd : decide (0 ≤ n) = false := by simpa using h0
    go_enter Tryd.func105, Tryd.ntmps105
    go_wp2
    go_ret
    exact ⟨ret_b (by unfold hasB; symm; rw [decide_eq_false_iff_not]; omega), rfl⟩

/-- cells.New. -/
theorem new_yes (n : Nat) (hn : n ≤ 1048576) (w : World) :
    Calls Tryd.prog 14 #[.int .i64 (n : Int)] w fun e w' => e = .returned (.tuple #[.pointer (some ⟨w.heap.size + 1, 0, none⟩), .int .i64 0]) ∧
      w' = (w.alloc (.cells (madeCells #[.int .u8 0] n) 5)).alloc (.cells #[.slice (some ⟨w.heap.size, 0, none⟩) n n] 98) := by
  have hmk := make_bytes n hn
  go_enter Tryd.func14, Tryd.ntmps14
  go_wp2
  go_ret2
  exact ⟨rfl, rfl⟩
theorem new_no (n : Int) (w : World) (h : n < 0 ∨ 1048576 < n) :
    Calls Tryd.prog 14 #[.int .i64 n] w fun e w' => e = .returned (.tuple #[.pointer none, .int .i64 11]) ∧ w = w' := by
  rcases h with h | h
  · have hd : decide (n < 0) = true := by simpa using h
    go_enter Tryd.func14, Tryd.ntmps14
    go_wp2
    go_ret2
    exact ⟨rfl, rfl⟩
  · have hd : decide (n < 0) = false := by simp; omega
    have hd : decide (1048576 < n) = true := by simpa using h
    go_enter Tryd.func14, Tryd.ntmps14
    go_wp2
    go_ret2
    exact ⟨rfl, rfl⟩
theorem len_any (q g L : Nat) (w : World) (hc : w.cell? ⟨q, 0, none⟩ = some (.slice (some ⟨g, 0, none⟩) L L)) :
    Calls Tryd.prog 62 #[.pointer (some ⟨q, 0, none⟩)] w fun e w' => e = .returned (.int .i64 (L : Int)) ∧ w = w' := by
  go_enter Tryd.func62, Tryd.ntmps62
  go_wp2
  go_ret
  exact ⟨rfl, rfl⟩

end Go.Proofs.YtaelfgdiboekpaaDoor.Ce

/-
  What Load, Store and Fill do: contracts that the claimed proofs use.
-/
namespace Go.Proofs.YtaelfgdiboekpaaDoor.Ce
set_option maxRecDepth 100000
open Go.RowKit

/-- The number of so many bytes at an address. -/
def ldW (bs : List (BitVec 8)) (s n : Nat) : BitVec 64 := ld (fun i => bs.getD (s + i) 0#8) n
theorem ld_step (f : Nat → BitVec 8) (k : Nat) (x : BitVec 8) (h : f k = x) : bits .or .u64 (u (ld f k)) (IntKind.u64.wrap (IntKind.u64.wrap (y x) * 2 ^ (8 * k))) = u (ld f (k + 1)) := by
  have e : IntKind.u64.wrap (y x) = y x := by rw [IntKind.wrap_u64]; have := y_nonneg x; have := y_lt x; omega
  rw [e, u_y, shl_u, or_u, ld, h]
theorem load_no (q g L : Nat) (s n : Int) (w : World) (hc : w.cell? ⟨q, 0, none⟩ = some (.slice (some ⟨g, 0, none⟩) L L)) (hL : L ≤ 1048576) (hs : s ≤ 9223372036854775807) (hno : (widthB n && hasB L s n) = false) :
    Calls Tryd.prog 45 #[.pointer (some ⟨q, 0, none⟩), .int .i64 s, .int .i64 n] w fun e w' => e = .returned (.tuple #[.int .u64 0, .int .i64 11]) ∧ w = w' := by
  cases hw : widthB n
  · go_enter Tryd.func45, Tryd.ntmps45
    go_wp2_with (go_at_call 83; refine (isWidth_any _ _).mono ?_; rw [hw]; rintro e w' ⟨rfl, rfl⟩)
    go_ret2
    exact ⟨rfl, rfl⟩
  · rw [hw, Bool.true_and] at hno
    go_enter Tryd.func45, Tryd.ntmps45
    go_wp2_with (first | (go_at_call 83; refine (isWidth_any _ _).mono ?_; rw [hw]; rintro e w' ⟨rfl, rfl⟩) | (go_at_call 61; refine (has_any q g L _ _ _ hc hL hs).mono ?_; rw [hno]; rintro e w' ⟨rfl, rfl⟩))
    go_ret2
    exact ⟨rfl, rfl⟩
theorem load_yes (q g : Nat) (bs : List (BitVec 8)) (s n : Nat) (w : World) (hm : Mem w q g bs) (hw : widthB n = true) (hh : s + n ≤ bs.length) :
    Calls Tryd.prog 45 #[.pointer (some ⟨q, 0, none⟩), .int .i64 (s : Int), .int .i64 (n : Int)] w fun e w' => e = .returned (.tuple #[.int .u64 (u (ldW bs s n)), .int .i64 0]) ∧ w = w' := by
  have hc := hm.cell
  have hL := hm.2.2
  have HM := Lib.hid hm
  have hb : hasB bs.length s n = true := hasB_iff.2 ⟨by omega, by omega, by omega⟩
  have hn : 1 ≤ n ∧ n ≤ 8 := by have := widthB_iff.1 hw; omega
  obtain ⟨n1, n8⟩ := hn
  clear hm
  obtain ⟨L, hl⟩ : ∃ L, bs.length = L := ⟨_, rfl⟩
  have HL := Lib.hid hl
  rw [hl] at hc hL hb hh
  clear hl
  go_enter Tryd.func45, Tryd.ntmps45
  go_wp2_with (first | (go_at_call 83; refine (isWidth_any _ _).mono ?_; rw [hw]; rintro e w' ⟨rfl, rfl⟩) | (go_at_call 61; refine (has_any q g L _ _ _ hc hL (by omega)).mono ?_; rw [hb]; rintro e w' ⟨rfl, rfl⟩))
  go_loop [8, 31] (fun v i => ∃ k : Nat, k ≤ n ∧ i = .int .i64 k ∧ v = .int .u64 (u (ldW bs s k))) (fun _ i => n - (intOf i).toNat)
  case atStart => exact ⟨0, by omega, rfl, rfl⟩
  case round =>
    obtain ⟨k, hk, rfl, rfl⟩ := hrel
    by_cases hlt : k < n
    · have q1 := HM.out.2.1.cell (i := s + k) (by have := HL.out; omega)
      obtain ⟨x, hx⟩ : ∃ x, bs.getD (s + k) 0#8 = x := ⟨_, rfl⟩
      rw [hx] at q1
      have HX := Lib.hid hx
      clear hx
      go_wp2
      go_round
      case rel => exact ⟨k + 1, by omega, by go_num, by rw [ldW, ld_step _ k x HX.out]; rfl⟩
      case measure => simp [intOf]; omega
    · obtain rfl : k = n := by omega
      go_wp2
      go_ret2
      exact ⟨rfl, rfl⟩

/-- What a call leaves that writes into the memory at q alone. -/
def Wrote (q g : Nat) (bs : List (BitVec 8)) (e0 : Int) (w : World) (e : Ending) (w' : World) : Prop :=
  e = .returned (.int .i64 e0) ∧ Mem w' q g bs ∧ w.grownBy w' (some g)

theorem store_no (q g L : Nat) (s n : Int) (v : BitVec 64) (w : World) (hc : w.cell? ⟨q, 0, none⟩ = some (.slice (some ⟨g, 0, none⟩) L L)) (hL : L ≤ 1048576) (hs : s ≤ 9223372036854775807) (hno : (widthB n && hasB L s n) = false) :
    Calls Tryd.prog 44 #[.pointer (some ⟨q, 0, none⟩), .int .i64 s, .int .i64 n, .int .u64 (u v)] w fun e w' => e = .returned (.int .i64 11) ∧ w = w' := by
  cases hw : widthB n
  · go_enter Tryd.func44, Tryd.ntmps44
    go_wp2_with (go_at_call 83; refine (isWidth_any _ _).mono ?_; rw [hw]; rintro e w' ⟨rfl, rfl⟩)
    go_ret
    exact ⟨rfl, rfl⟩
  · rw [hw, Bool.true_and] at hno
    go_enter Tryd.func44, Tryd.ntmps44
    go_wp2_with (first | (go_at_call 83; refine (isWidth_any _ _).mono ?_; rw [hw]; rintro e w' ⟨rfl, rfl⟩) | (go_at_call 61; refine (has_any q g L _ _ _ hc hL hs).mono ?_; rw [hno]; rintro e w' ⟨rfl, rfl⟩))
    go_ret
    exact ⟨rfl, rfl⟩
theorem by8_raw (v : BitVec 64) (k : Nat) : IntKind.u8.wrap (u v / 2 ^ (8 * k)) = y (by8 v k) := by rw [shr_u, y_u]; rfl
theorem put_step {w wr : World} {q g s k n : Nat} {bs : List (BitVec 8)} (cs : List (BitVec 8)) (x : BitVec 8) (hk : cs.length = k) (hs : s + n ≤ bs.length) (hkn : k < n)
    (hm : Mem wr q g (splice bs s cs)) (hg : w.grownBy wr (some g)) :
    Mem (wr.setCell ⟨g, s + k, none⟩ (.int .u8 (y x))) q g (splice bs s (cs ++ [x])) ∧ w.grownBy (wr.setCell ⟨g, s + k, none⟩ (.int .u8 (y x))) (some g) := by
  have hr := hm.2.1.set (i := s + k) x
  subst hk
  rw [splice_set bs cs s x (by omega)] at hr
  exact ⟨hm.turned (grown_set (grown_refl _ _)) hr (by rw [splice_length (by simp; omega), splice_length (by omega)]), grown_set hg⟩
theorem store_yes (q g : Nat) (bs : List (BitVec 8)) (s n : Nat) (v : BitVec 64) (w : World) (hm : Mem w q g bs) (hw : widthB n = true) (hh : s + n ≤ bs.length) :
    Calls Tryd.prog 44 #[.pointer (some ⟨q, 0, none⟩), .int .i64 (s : Int), .int .i64 (n : Int), .int .u64 (u v)] w (Wrote q g (splice bs s (bytesOf v n)) 0 w) := by
  have hc := hm.cell
  have hL := hm.2.2
  have HM := Lib.hid hm
  have hb : hasB bs.length s n = true := hasB_iff.2 ⟨by omega, by omega, by omega⟩
  have hn : 1 ≤ n ∧ n ≤ 8 := by have := widthB_iff.1 hw; omega
  obtain ⟨n1, n8⟩ := hn
  clear hm
  obtain ⟨L, hl⟩ : ∃ L, bs.length = L := ⟨_, rfl⟩
  have HL := Lib.hid hl
  rw [hl] at hc hL hb hh
  clear hl
  go_enter Tryd.func44, Tryd.ntmps44
  go_wp2_with (first | (go_at_call 83; refine (isWidth_any _ _).mono ?_; rw [hw]; rintro e w' ⟨rfl, rfl⟩) | (go_at_call 61; refine (has_any q g L _ _ _ hc hL (by omega)).mono ?_; rw [hb]; rintro e w' ⟨rfl, rfl⟩))
  go_loopw [21] (fun i wr => ∃ k : Nat, k ≤ n ∧ i = .int .i64 k ∧ Mem wr q g (splice bs s (bytesOf v k)) ∧ w.grownBy wr (some g)) (fun i _ => n - (intOf i).toNat)
  case atStart => exact ⟨0, by omega, rfl, by rw [show bytesOf v 0 = [] from rfl, splice_nil]; exact HM.out, grown_refl _ _⟩
  case round =>
    obtain ⟨k, hk, rfl, hmr, hgr⟩ := hrel
    have HMR := Lib.hid hmr
    have HGR := Lib.hid hgr
    have hlen : (splice bs s (bytesOf v k)).length = L := by rw [splice_length (by rw [bytesOf_length, HL.out]; omega)]; exact HL.out
    have hc2 := hmr.cell
    rw [hlen] at hc2
    clear hmr hgr
    by_cases hlt : k < n
    · have q1 := HMR.out.2.1.cell (i := s + k) (by rw [hlen]; omega)
      have q2 := HMR.out.2.1.frozen (s + k)
      obtain ⟨x, hx⟩ : ∃ x, (splice bs s (bytesOf v k)).getD (s + k) 0#8 = x := ⟨_, rfl⟩
      rw [hx] at q1
      clear hx hlen hc
      go_wp2
      go_region
      go_wp2
      go_roundw
      case rel =>
        have h := put_step (w := w) (bytesOf v k) (by8 v k) (bytesOf_length v k) (by rw [HL.out]; exact hh) hlt HMR.out HGR.out
        rw [← bytesOf_succ, ← by8_raw] at h
        exact ⟨k + 1, by omega, by go_num, h.1, grown_drew h.2⟩
      case measure => simp [intOf]; omega
    · obtain rfl : k = n := by omega
      go_wp2
      go_ret
      exact ⟨rfl, HMR.out, HGR.out⟩

theorem fill_no (q g L : Nat) (s n : Int) (x : BitVec 8) (w : World) (hc : w.cell? ⟨q, 0, none⟩ = some (.slice (some ⟨g, 0, none⟩) L L)) (hL : L ≤ 1048576) (hs : s ≤ 9223372036854775807) (hno : hasB L s n = false) :
    Calls Tryd.prog 72 #[.pointer (some ⟨q, 0, none⟩), .int .i64 s, .int .i64 n, .int .u8 (y x)] w fun e w' => e = .returned (.int .i64 11) ∧ w = w' := by
  go_enter Tryd.func72, Tryd.ntmps72
  go_wp2_with (go_at_call 61; refine (has_any q g L _ _ _ hc hL hs).mono ?_; rw [hno]; rintro e w' ⟨rfl, rfl⟩)
  go_ret
  exact ⟨rfl, rfl⟩
theorem fill_yes (q g : Nat) (bs : List (BitVec 8)) (s n : Nat) (x : BitVec 8) (w : World) (hm : Mem w q g bs) (hh : s + n ≤ bs.length) :
    Calls Tryd.prog 72 #[.pointer (some ⟨q, 0, none⟩), .int .i64 (s : Int), .int .i64 (n : Int), .int .u8 (y x)] w (Wrote q g (splice bs s (List.replicate n x)) 0 w) := by
  have hc := hm.cell
  have hL := hm.2.2
  have HM := Lib.hid hm
  have hb : hasB bs.length s n = true := hasB_iff.2 ⟨by omega, by omega, by omega⟩
  clear hm
  obtain ⟨L, hl⟩ : ∃ L, bs.length = L := ⟨_, rfl⟩
  have HL := Lib.hid hl
  rw [hl] at hc hL hb hh
  clear hl
  go_enter Tryd.func72, Tryd.ntmps72
  go_wp2_with (go_at_call 61; refine (has_any q g L _ _ _ hc hL (by omega)).mono ?_; rw [hb]; rintro e w' ⟨rfl, rfl⟩)
  go_loopw [16] (fun i wr => ∃ k : Nat, k ≤ n ∧ i = .int .i64 k ∧ Mem wr q g (splice bs s (List.replicate k x)) ∧ w.grownBy wr (some g)) (fun i _ => n - (intOf i).toNat)
  case atStart => exact ⟨0, by omega, rfl, by rw [List.replicate_zero, splice_nil]; exact HM.out, grown_refl _ _⟩
  case round =>
    obtain ⟨k, hk, rfl, hmr, hgr⟩ := hrel
    have HMR := Lib.hid hmr
    have HGR := Lib.hid hgr
    have hlen : (splice bs s (List.replicate k x)).length = L := by rw [splice_length (by rw [List.length_replicate, HL.out]; omega)]; exact HL.out
    have hc2 := hmr.cell
    rw [hlen] at hc2
    clear hmr hgr
    by_cases hlt : k < n
    · have q1 := HMR.out.2.1.cell (i := s + k) (by rw [hlen]; omega)
      have q2 := HMR.out.2.1.frozen (s + k)
      obtain ⟨x', hx⟩ : ∃ x', (splice bs s (List.replicate k x)).getD (s + k) 0#8 = x' := ⟨_, rfl⟩
      rw [hx] at q1
      clear hx hlen hc
      go_wp2
      go_roundw
      case rel =>
        have h := put_step (w := w) (List.replicate k x) x (List.length_replicate ..) (by rw [HL.out]; exact hh) hlt HMR.out HGR.out
        rw [← List.replicate_succ'] at h
        exact ⟨k + 1, by omega, by go_num, h.1, h.2⟩
      case measure => simp [intOf]; omega
    · obtain rfl : k = n := by omega
      go_wp2
      go_ret
      exact ⟨rfl, HMR.out, HGR.out⟩

end Go.Proofs.YtaelfgdiboekpaaDoor.Ce
