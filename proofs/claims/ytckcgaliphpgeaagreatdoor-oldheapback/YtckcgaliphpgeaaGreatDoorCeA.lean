import Derived.Laws.BitsAllLaws
import Derived.Laws.BitsLemmas
import Derived.Laws.CopyOwn
import Derived.Test.YtckcgaliphpgeaaGreatDoorRows
import Derived.WalkKit
import Derived.WalkSpells
import Derived.WalkLawsBesides
import Derived.Deep.QuietTactic
import Derived.BigQuiet
import Derived.Deep.RegionHeld3
import Derived.Deep.RegionLaw
import Derived.Deep.AppendLies
import Derived.Laws.AppendOwnNone
import Derived.Deep.OwnRows
import Derived.Lib.Hide
/-
  Plain facts on bytes and words, of which no statement of its own is claimed: words as bit vectors, rows of bytes, numbers that are made of bytes.
-/
namespace Go.Proofs.YtckcgaliphpgeaaGreatDoor.Ce
set_option maxRecDepth 100000

/-- A word as the number that it is. -/
def u (x : BitVec 64) : Int := (x.toNat : Int)
/-- A byte as the number that it is. -/
def y (x : BitVec 8) : Int := (x.toNat : Int)

theorem u_inj {a b : BitVec 64} (h : u a = u b) : a = b := by
  unfold u at h; exact BitVec.eq_of_toNat_eq (by omega)
theorem u_beq (a b : BitVec 64) : (u a == u b) = (a == b) := by
  rw [Bool.eq_iff_iff]; simp only [beq_iff_eq]; exact ⟨u_inj, fun h => by rw [h]⟩
theorem u_bne (a b : BitVec 64) : (u a != u b) = (a != b) := by rw [bne, bne, u_beq]
theorem u_of (n : Int) (h0 : 0 ≤ n) (h1 : n < 18446744073709551616) : ∃ x : BitVec 64, n = u x :=
  ⟨BitVec.ofNat 64 n.toNat, by unfold u; rw [BitVec.toNat_ofNat, Nat.mod_eq_of_lt (by omega)]; omega⟩
theorem y_inj {a b : BitVec 8} (h : y a = y b) : a = b := by
  unfold y at h; exact BitVec.eq_of_toNat_eq (by omega)
theorem y_beq (a b : BitVec 8) : (y a == y b) = (a == b) := by
  rw [Bool.eq_iff_iff]; simp only [beq_iff_eq]; exact ⟨y_inj, fun h => by rw [h]⟩
theorem y_bne (a b : BitVec 8) : (y a != y b) = (a != b) := by rw [bne, bne, y_beq]
theorem y_of (n : Int) (h0 : 0 ≤ n) (h1 : n < 256) : ∃ x : BitVec 8, n = y x :=
  ⟨BitVec.ofNat 8 n.toNat, by unfold y; rw [BitVec.toNat_ofNat, Nat.mod_eq_of_lt (by omega)]; omega⟩
theorem y_nonneg (a : BitVec 8) : 0 ≤ y a := by unfold y; omega
theorem y_lt (a : BitVec 8) : y a < 256 := by unfold y; have := a.isLt; omega
theorem and_u (a b : BitVec 64) : bits .and .u64 (u a) (u b) = u (a &&& b) := by
  unfold u; rw [u64_and_nat _ _ a.isLt b.isLt, BitVec.toNat_and]
theorem or_u (a b : BitVec 64) : bits .or .u64 (u a) (u b) = u (a ||| b) := by
  unfold u; rw [u64_or_nat _ _ a.isLt b.isLt, BitVec.toNat_or]
theorem shl_u (x : BitVec 64) (n : Nat) : IntKind.u64.wrap (u x * 2 ^ n) = u (x <<< n) := by
  unfold u; rw [IntKind.wrap_u64, BitVec.toNat_shiftLeft, Nat.shiftLeft_eq]
  have : ((x.toNat : Int) * 2 ^ n) = ((x.toNat * 2 ^ n : Nat) : Int) := by rw [Int.natCast_mul, Int.natCast_pow]; rfl
  rw [this]; omega
theorem shr_u (x : BitVec 64) (n : Nat) : u x / 2 ^ n = u (x >>> n) := by
  unfold u; rw [BitVec.toNat_ushiftRight, Nat.shiftRight_eq_div_pow]
  have : ((2 : Int) ^ n) = ((2 ^ n : Nat) : Int) := by rw [Int.natCast_pow]; rfl
  rw [this, Int.natCast_ediv]
theorem u_y (a : BitVec 8) : y a = u (a.setWidth 64) := by
  unfold u y; rw [BitVec.toNat_setWidth, Nat.mod_eq_of_lt (by have := a.isLt; omega)]
theorem y_u (x : BitVec 64) : IntKind.u8.wrap (u x) = y (x.setWidth 8) := by
  unfold u y; rw [IntKind.wrap_u8, BitVec.toNat_setWidth]; omega
theorem mul_u (a b : BitVec 64) : IntKind.u64.wrap (u a * u b) = u (a * b) := by
  unfold u; rw [IntKind.wrap_u64, BitVec.toNat_mul, ← Int.natCast_mul]; omega
theorem add_u (a b : BitVec 64) : IntKind.u64.wrap (u a + u b) = u (a + b) := by
  unfold u; rw [IntKind.wrap_u64, BitVec.toNat_add]; omega
theorem sub_u (a b : BitVec 64) : IntKind.u64.wrap (u a - u b) = u (a - b) := by
  unfold u; rw [IntKind.wrap_u64, BitVec.toNat_sub]; have := a.isLt; have := b.isLt; omega

/-! ### Numbers that are made of bytes -/
/-- From the lowest byte on. -/
def ld (f : Nat → BitVec 8) : Nat → BitVec 64
  | 0 => 0#64
  | k + 1 => ld f k ||| ((f k).setWidth 64 <<< (8 * k))
/-- From the highest byte on: k bytes up to n. -/
def hd (f : Nat → BitVec 8) (n : Nat) : Nat → BitVec 64
  | 0 => 0#64
  | k + 1 => hd f n k * 256#64 + (f (n - (k + 1))).setWidth 64
/-- One byte of a word. -/
def by8 (v : BitVec 64) (i : Nat) : BitVec 8 := (v >>> (8 * i)).setWidth 8
/-- The lowest bytes of a word. -/
def bytesOf (v : BitVec 64) (n : Nat) : List (BitVec 8) := (List.range n).map (by8 v)
theorem bytesOf_length (v : BitVec 64) (n : Nat) : (bytesOf v n).length = n := by simp [bytesOf]
theorem bytesOf_succ (v : BitVec 64) (n : Nat) : bytesOf v (n + 1) = bytesOf v n ++ [by8 v n] := by simp [bytesOf, List.range_succ]
theorem bytesOf_getD (v : BitVec 64) (n i : Nat) (h : i < n) : (bytesOf v n).getD i 0#8 = by8 v i := by
  rw [List.getD_eq_getElem?_getD, bytesOf, List.getElem?_map, List.getElem?_range h]; rfl

theorem ld_bit (f : Nat → BitVec 8) : ∀ (n : Nat), n ≤ 8 → ∀ i, (ld f n).getLsbD i = (decide (i < 8 * n) && (f (i / 8)).getLsbD (i % 8))
  | 0, _, i => by simp [ld]
  | k + 1, hk, i => by
    rw [ld, BitVec.getLsbD_or, ld_bit f k (by omega) i, BitVec.getLsbD_shiftLeft, BitVec.getLsbD_setWidth]
    by_cases h1 : i < 8 * k
    · have h2 : i < 8 * (k + 1) := by omega
      simp [h1, h2]
    · by_cases h2 : i < 8 * (k + 1)
      · have e1 : i / 8 = k := by omega
        have e2 : i % 8 = i - 8 * k := by omega
        have h3 : i < 64 := by omega
        have h4 : i - 8 * k < 64 := by omega
        simp [h1, h2, h3, h4, e1, e2]
      · have : (f k).getLsbD (i - 8 * k) = false := BitVec.getLsbD_of_ge _ _ (by omega)
        simp [h1, h2, this]
theorem mul256 (x : BitVec 64) : x * 256#64 = x <<< 8 := by
  apply BitVec.eq_of_toNat_eq; rw [BitVec.toNat_mul, BitVec.toNat_shiftLeft, Nat.shiftLeft_eq]; rfl
theorem shl_add (x : BitVec 64) (b : BitVec 8) : x <<< 8 + b.setWidth 64 = x <<< 8 ||| b.setWidth 64 := by
  apply BitVec.add_eq_or_of_and_eq_zero
  apply BitVec.eq_of_getLsbD_eq
  intro i hi
  rw [BitVec.getLsbD_and, BitVec.getLsbD_shiftLeft, BitVec.getLsbD_setWidth, BitVec.getLsbD_zero]
  by_cases h : i < 8
  · simp [h]
  · rw [BitVec.getLsbD_of_ge b i (by omega)]; simp
theorem hd_bit (f : Nat → BitVec 8) (n : Nat) (hn : n ≤ 8) : ∀ (k : Nat), k ≤ n → ∀ i, (hd f n k).getLsbD i = (decide (i < 8 * k) && (f (n - k + i / 8)).getLsbD (i % 8))
  | 0, _, i => by simp [hd]
  | k + 1, hk, i => by
    rw [hd, mul256, shl_add, BitVec.getLsbD_or, BitVec.getLsbD_shiftLeft, BitVec.getLsbD_setWidth]
    by_cases h1 : i < 8
    · have e1 : i / 8 = 0 := by omega
      have e2 : i % 8 = i := by omega
      have h2 : i < 8 * (k + 1) := by omega
      have h3 : i < 64 := by omega
      simp [h1, h2, h3, e1, e2]
    · rw [hd_bit f n hn k (by omega) (i - 8), BitVec.getLsbD_of_ge (f (n - (k + 1))) i (by omega)]
      by_cases h2 : i < 8 * (k + 1)
      · have e1 : n - k + (i - 8) / 8 = n - (k + 1) + i / 8 := by omega
        have e2 : (i - 8) % 8 = i % 8 := by omega
        have h3 : i < 64 := by omega
        have h4 : i - 8 < 8 * k := by omega
        simp [h1, h2, h3, h4, e1, e2]
      · have h4 : ¬ i - 8 < 8 * k := by omega
        simp [h1, h2, h4]
theorem hd_ld (f : Nat → BitVec 8) (n : Nat) (hn : n ≤ 8) : hd f n n = ld f n := by
  apply BitVec.eq_of_getLsbD_eq
  intro i _
  rw [hd_bit f n hn n (Nat.le_refl _) i, ld_bit f n hn i, Nat.sub_self, Nat.zero_add]
theorem by8_bit (v : BitVec 64) (k i : Nat) : (by8 v k).getLsbD i = (decide (i < 8) && v.getLsbD (8 * k + i)) := by
  unfold by8; rw [BitVec.getLsbD_setWidth, BitVec.getLsbD_ushiftRight]
/-- What is stored is loaded: the lowest bytes of the word. -/
theorem ld_congr {f g : Nat → BitVec 8} : ∀ {n : Nat}, (∀ i, i < n → f i = g i) → ld f n = ld g n
  | 0, _ => rfl
  | k + 1, h => by rw [ld, ld, ld_congr (n := k) (fun i hi => h i (by omega)), h k (by omega)]
theorem ld_by8 (v : BitVec 64) (n : Nat) (hn : n ≤ 8) (i : Nat) : (ld (by8 v) n).getLsbD i = (decide (i < 8 * n) && v.getLsbD i) := by
  rw [ld_bit _ n hn i, by8_bit]
  have e1 : 8 * (i / 8) + i % 8 = i := by omega
  have h : i % 8 < 8 := by omega
  rw [e1]; simp [h]
theorem ld_by8_whole (v : BitVec 64) : ld (by8 v) 8 = v := by
  apply BitVec.eq_of_getLsbD_eq
  intro i hi
  rw [ld_by8 v 8 (Nat.le_refl _) i]
  have : i < 8 * 8 := by omega
  simp [this]
theorem ld_by8_low (v : BitVec 64) (n : Nat) (hn : n < 8) : ld (by8 v) n = v &&& (1#64 <<< (8 * n) - 1#64) := by
  apply BitVec.eq_of_getLsbD_eq
  intro i hi
  have e : 1#64 <<< (8 * n) - 1#64 = BitVec.ofNat 64 (2 ^ (8 * n) - 1) := by
    rcases (by omega : n = 0 ∨ n = 1 ∨ n = 2 ∨ n = 3 ∨ n = 4 ∨ n = 5 ∨ n = 6 ∨ n = 7) with rfl | rfl | rfl | rfl | rfl | rfl | rfl | rfl <;> decide
  rw [ld_by8 v n (by omega) i, BitVec.getLsbD_and, e, BitVec.getLsbD_ofNat, Nat.testBit_two_pow_sub_one]
  simp [hi, Bool.and_comm]

/-! ### Rows of bytes -/
theorem splice_length {α : Type} {L cs : List α} {off : Nat} (h : off + cs.length ≤ L.length) : (splice L off cs).length = L.length := length_splice L off cs h
theorem splice_nil {α : Type} (L : List α) (off : Nat) : splice L off [] = L := by simp [splice]
theorem splice_getElem? {α : Type} (L cs : List α) (off i : Nat) (h : off + cs.length ≤ L.length) :
    (splice L off cs)[i]? = if off ≤ i ∧ i < off + cs.length then cs[i - off]? else L[i]? := by
  have e : min off L.length = off := by omega
  unfold splice
  rw [List.getElem?_append, List.length_take, e]
  by_cases h1 : i < off
  · rw [if_pos h1, if_neg (by omega), List.getElem?_take, if_pos h1]
  · rw [if_neg h1, List.getElem?_append]
    by_cases h2 : i - off < cs.length
    · rw [if_pos h2, if_pos (by omega)]
    · rw [if_neg h2, if_neg (by omega), List.getElem?_drop]; congr 1; omega
theorem splice_getD (L cs : List (BitVec 8)) (off i : Nat) (h : off + cs.length ≤ L.length) :
    (splice L off cs).getD i 0#8 = if off ≤ i ∧ i < off + cs.length then cs.getD (i - off) 0#8 else L.getD i 0#8 := by
  simp only [List.getD_eq_getElem?_getD, splice_getElem? L cs off i h]; split <;> rfl
theorem splice_set {α : Type} (L cs : List α) (off : Nat) (x : α) (h : off + cs.length < L.length) :
    (splice L off cs).set (off + cs.length) x = splice L off (cs ++ [x]) := by
  apply List.ext_getElem?
  intro i
  rw [List.getElem?_set, splice_length (by omega), splice_getElem? L cs off i (by omega), splice_getElem? L _ off i (by simp; omega), List.length_append, List.length_singleton]
  by_cases h1 : off + cs.length = i
  · subst h1
    rw [if_pos rfl, if_pos h, if_pos (by omega), List.getElem?_append_right (by omega)]
    simp
  · rw [if_neg h1]
    by_cases h2 : off ≤ i ∧ i < off + cs.length
    · rw [if_pos h2, if_pos (by omega), List.getElem?_append_left (by omega)]
    · rw [if_neg h2, if_neg (by omega)]

end Go.Proofs.YtckcgaliphpgeaaGreatDoor.Ce

/-
  What a memory is, as the walk meets it: a row of bytes, and the cell that names it; laws on both that the claimed proofs use.
-/
namespace Go.Proofs.YtckcgaliphpgeaaGreatDoor.Ce
set_option maxRecDepth 100000
open Go.RowKit

theorem ret_u {a b : Int} (h : a = b) : Ending.returned (.int .u64 a) = .returned (.int .u64 b) := by rw [h]
theorem ret_b {a b : Bool} (h : a = b) : Ending.returned (.bool a) = .returned (.bool b) := by rw [h]
theorem ret_ue {a b : Int} {c : Int} (h : a = b) : Ending.returned (.tuple #[.int .u64 a, .int .i64 c]) = .returned (.tuple #[.int .u64 b, .int .i64 c]) := by rw [h]

/-! ### Worlds -/
theorem grown_refl (w : World) (r : Option Nat) : w.grownBy w r := ⟨rfl, rfl, rfl, Nat.le_refl _, fun _ _ _ => rfl⟩
theorem grown_trans {a b c : World} {r : Option Nat} (h : a.grownBy b r) (k : b.grownBy c r) : a.grownBy c r :=
  ⟨k.os.trans h.os, k.tape.trans h.tape, k.output.trans h.output, Nat.le_trans h.size k.size, fun i hi hr => (k.block i (Nat.lt_of_lt_of_le hi h.size) hr).trans (h.block i hi hr)⟩
theorem grown_drew {a b : World} {r : Option Nat} (h : a.grownBy b r) : a.grownBy b.drew r := ⟨h.os, h.tape, h.output, h.size, h.block⟩
theorem grown_set {a b : World} {g i : Nat} {v : Value} (h : a.grownBy b (some g)) : a.grownBy (b.setCell ⟨g, i, none⟩ v) (some g) :=
  grown_trans h ⟨rfl, rfl, rfl, by simp [World.setCell], fun k _ hr => Below.heap_setCell _ _ _ _ (fun e => hr (by rw [e]))⟩
theorem grown_below {a b : World} {r : Option Nat} (h : Below a.heap.size a b) : a.grownBy b r := ⟨h.os, h.tape, h.output, h.size, fun k hk _ => h.block k hk⟩
theorem below_grown {B g : Nat} {a b c : World} (h : Below B a b) (k : b.grownBy c (some g)) (hB : B ≤ b.heap.size) (hg : B ≤ g) : Below B a c := h.grown k hB (fun _ e => by cases e; exact hg)
theorem up_trans {w W w2 : World} (h : Below w.heap.size w W) (h2 : Below W.heap.size W w2) : Below w.heap.size w w2 := h.trans (h2.mono h.size)
theorem up_alloc {w W : World} (h : Below w.heap.size w W) (o : Obj) : Below w.heap.size w (W.alloc o) := h.alloc h.size o
theorem up_drew {w W : World} (h : Below w.heap.size w W) : ∀ k, Below w.heap.size w (W.drewN k)
  | 0 => h
  | k + 1 => (up_drew h k).drew

/-! ### Rows -/
def row (bs : List (BitVec 8)) : List Value := bs.map fun x => Value.int .u8 (y x)
theorem row_length (bs : List (BitVec 8)) : (row bs).length = bs.length := by simp [row]
theorem row_one (bs : List (BitVec 8)) : ∀ v ∈ row bs, v.oneCell' = true := by
  intro v hv; obtain ⟨x, _, rfl⟩ := List.mem_map.1 hv; rfl
theorem row_splice (L cs : List (BitVec 8)) (off : Nat) : splice (row L) off (row cs) = row (splice L off cs) := by simp [splice, row]
theorem row_get {bs : List (BitVec 8)} {i : Nat} (h : i < bs.length) : (row bs)[i]? = some (.int .u8 (y (bs.getD i 0#8))) := by
  rw [row, List.getElem?_map, List.getD_eq_getElem?_getD, List.getElem?_eq_getElem h]; rfl
/-- A row of bytes, a block whole. -/
def Row (w : World) (g : Nat) (bs : List (BitVec 8)) : Prop := w.heap[g]? = some (.cells (row bs).toArray 5 (0, 0))
/-- A memory: the cell at q names the row g. -/
def Mem (w : World) (q g : Nat) (bs : List (BitVec 8)) : Prop := w.heap[q]? = some (.cells #[.slice (some ⟨g, 0, none⟩) bs.length bs.length] 173 (0, 0)) ∧ Row w g bs ∧ bs.length ≤ 1048576
theorem Row.cell {w : World} {g i : Nat} {bs : List (BitVec 8)} (h : Row w g bs) (hi : i < bs.length) : w.cell? ⟨g, i, none⟩ = some (.int .u8 (y (bs.getD i 0#8))) := by
  rw [cell_of_row w g i _ 5 (0, 0) h]; simpa using row_get hi
theorem Row.frozen {w : World} {g : Nat} {bs : List (BitVec 8)} (h : Row w g bs) (i : Nat) : w.frozen? ⟨g, i, none⟩ = false := frozen_of_row w g i _ 5 h
theorem Row.lt {w : World} {g : Nat} {bs : List (BitVec 8)} (h : Row w g bs) : g < w.heap.size := (Array.getElem?_eq_some_iff.1 h).1
theorem Row.of_block {w w' : World} {g : Nat} {bs : List (BitVec 8)} (h : Row w g bs) (e : w'.heap[g]? = w.heap[g]?) : Row w' g bs := e.trans h
theorem Row.set {w : World} {g i : Nat} {bs : List (BitVec 8)} (h : Row w g bs) (x : BitVec 8) : Row (w.setCell ⟨g, i, none⟩ (.int .u8 (y x))) g (bs.set i x) := by
  have := heap_setCell_same w g i _ 5 (.int .u8 (y x)) h
  unfold Row
  rw [this, row, row, List.map_set]
  simp
theorem Row.made (w : World) (n : Nat) : Row (w.alloc (.cells (madeCells #[.int .u8 0] n) 5)) w.heap.size (List.replicate n 0#8) := by
  unfold Row
  rw [heap_alloc_new]
  congr 2
  apply Array.ext'
  rw [toList_madeCells_one]
  simp [row, y]
theorem Mem.cell {w : World} {q g : Nat} {bs : List (BitVec 8)} (h : Mem w q g bs) : w.cell? ⟨q, 0, none⟩ = some (.slice (some ⟨g, 0, none⟩) bs.length bs.length) := by
  rw [cell_of_row w q 0 _ 173 (0, 0) h.1]; rfl
theorem Mem.lt {w : World} {q g : Nat} {bs : List (BitVec 8)} (h : Mem w q g bs) : q < w.heap.size := (Array.getElem?_eq_some_iff.1 h.1).1
theorem Mem.ne {w : World} {q g : Nat} {bs : List (BitVec 8)} (h : Mem w q g bs) : q ≠ g := fun e => by
  have h1 := h.1; rw [e, h.2.1] at h1; simp at h1
theorem Mem.of_blocks {w w' : World} {q g : Nat} {bs : List (BitVec 8)} (h : Mem w q g bs) (e : w'.heap[q]? = w.heap[q]?) (e2 : w'.heap[g]? = w.heap[g]?) : Mem w' q g bs := ⟨e.trans h.1, h.2.1.of_block e2, h.2.2⟩
theorem Mem.below {w w' : World} {q g : Nat} {bs : List (BitVec 8)} (h : Mem w q g bs) (hb : Below w.heap.size w w') : Mem w' q g bs := h.of_blocks (hb.block q h.lt) (hb.block g h.2.1.lt)
theorem Mem.far {w w' : World} {q g k : Nat} {bs : List (BitVec 8)} (h : Mem w q g bs) (hb : w.grownBy w' (some k)) (h1 : q ≠ k) (h2 : g ≠ k) : Mem w' q g bs :=
  h.of_blocks (hb.block q h.lt (by simpa using h1)) (hb.block g h.2.1.lt (by simpa using h2))
theorem Mem.turned {w w' : World} {q g : Nat} {bs cs : List (BitVec 8)} (h : Mem w q g bs) (hb : w.grownBy w' (some g)) (hr : Row w' g cs) (hl : cs.length = bs.length) : Mem w' q g cs := by
  refine ⟨?_, hr, by rw [hl]; exact h.2.2⟩
  rw [hb.block q h.lt (by simpa using h.ne), h.1, hl]
theorem Mem.drew {w : World} {q g : Nat} {bs : List (BitVec 8)} (h : Mem w q g bs) : Mem w.drew q g bs := h
theorem Mem.made (w : World) (n : Nat) (hn : n ≤ 1048576) : Mem ((w.alloc (.cells (madeCells #[.int .u8 0] n) 5)).alloc (.cells #[.slice (some ⟨w.heap.size, 0, none⟩) n n] 173)) (w.heap.size + 1) w.heap.size (List.replicate n 0#8) := by
  refine ⟨?_, ?_, by simpa using hn⟩
  · have := heap_alloc_new (w.alloc (.cells (madeCells #[.int .u8 0] n) 5)) (.cells #[.slice (some ⟨w.heap.size, 0, none⟩) n n] 173)
    simpa using this
  · exact (Row.made w n).of_block (Below.heap_alloc _ _ _ (by simp))

theorem byte_info : (Tryz.prog.info? 5).map (fun i => (i.zero, i.size, i.bytes)) = some (some (.int .u8 0), 1, 1) := by kernel_rfl
theorem byte_size : (Tryz.prog.info? 5).map (·.size) = some 1 := by kernel_rfl
theorem make_bytes (n : Nat) (hn : n ≤ 1048576) (W : World) :
    (Instr.makeSlice 130 (.int .i64 (n : Int)) (.int .i64 (n : Int))).run Tryz.prog W = .ok (.slice (some ⟨W.heap.size, 0, none⟩) n n) (W.alloc (.cells (madeCells #[.int .u8 0] n) 5)) := by
  obtain ⟨i, hi, hp⟩ := Option.map_eq_some_iff.1 byte_info
  simp only [Prod.mk.injEq] at hp
  obtain ⟨hz, hs, hb⟩ := hp
  have := run_make (P := Tryz.prog) W 130 5 i (.int .u8 0) Tryz.underlying130 hi hz .i64 .i64 n n (by omega) (by omega) (by rw [hb]; omega) (by omega)
  rw [hs] at this
  simpa [Value.cells] using this

/-- copy into a row that is known whole. -/
theorem copy_law {w : World} {ops : Array Oper} {rest : List Oper} {o : Oper} {a : Act} {Q : Exit → Act → World → Prop} (hgd : o.guard = none) (d s : Operand)
    (ho : o.op = .call { callee := .builtin .copy, args := #[d, s], argTypes := #[130, 130] })
    (dp sp : Option Addr) (dLen dCap sLen sCap : Nat) (hd : a.eval d = .slice dp dLen dCap) (hs : a.eval s = .slice sp sLen sCap)
    (g off : Nat) (cur cs : List (BitVec 8)) (hg : Row w g cur) (hn : cs.length = Nat.min sLen dLen)
    (hpos : 0 < cs.length → dp = some ⟨g, off, none⟩ ∧ ∃ sb so, sp = some ⟨sb, so, none⟩ ∧ ∀ j, j < cs.length → w.cell? ⟨sb, so + j, none⟩ = some (.int .u8 (y (cs.getD j 0#8))))
    (hfit : off + cs.length ≤ cur.length)
    (h : ∀ w', Hid (Row w' g (splice cur off cs)) → Hid (w.grownBy w' (some g)) → wpList Tryz.prog ops Q rest (a.put o.dst (goInt cs.length)) w') :
    wpList Tryz.prog ops Q (o :: rest) a w := by
  by_cases h0 : cs.length = 0
  · obtain rfl : cs = [] := List.eq_nil_of_length_eq_zero h0
    refine wpList_copy_nothing hgd d s 130 130 ho 5 Tryz.underlying130 byte_size dp sp dLen dCap sLen sCap hd hs (by simpa using hn.symm) ?_
    exact h w (by rw [splice_nil]; exact hg) (grown_refl _ _)
  · obtain ⟨rfl, sb, so, rfl, hsrc⟩ := hpos (by omega)
    refine wpList_copy_own hgd d s 130 130 ho 5 Tryz.underlying130 byte_size g off dLen dCap ⟨sb, so, none⟩ sLen sCap hd hs (row cur).toArray 5 hg (row cs) (by rw [row_length]; exact hn) ?_ (by simpa [row_length] using hfit) (row_one cs) ?_
    · intro j v hv
      have hj : j < cs.length := by
        rcases Nat.lt_or_ge j cs.length with hj | hj
        · exact hj
        · rw [List.getElem?_eq_none (by rw [row_length]; exact hj)] at hv; cases hv
      rw [row_get hj] at hv
      cases hv
      have e : (⟨sb, so, none⟩ : Addr).add j = ⟨sb, so + j, none⟩ := by unfold Addr.add; split <;> simp_all
      rw [e]; exact hsrc j hj
    · rw [row_length]
      refine h _ (show _ = _ from ?_) ⟨rfl, rfl, rfl, by simp [World.setRow], fun k _ hk => setRow_other w g k _ (fun e => hk (by rw [e]))⟩
      have := setRow_heap w g _ ((row cur).take off ++ (row cs ++ (row cur).drop (off + cs.length))).toArray 5 _ hg
      rw [show (row cur).toArray.toList = row cur from rfl, this, ← row_splice, splice, row_length]

end Go.Proofs.YtckcgaliphpgeaaGreatDoor.Ce

/-
  What the small functions do: contracts that the claimed proofs use.
-/
namespace Go.Proofs.YtckcgaliphpgeaaGreatDoor.Ce
set_option maxRecDepth 100000
open Go.RowKit

/-- Are so many bytes from an address on within so many? -/
def hasB (L : Nat) (s n : Int) : Bool := decide (0 ≤ s ∧ 0 ≤ n ∧ s + n ≤ L)
theorem hasB_iff {L : Nat} {s n : Int} : hasB L s n = true ↔ 0 ≤ s ∧ 0 ≤ n ∧ s + n ≤ L := by simp [hasB]
theorem hasB_not {L : Nat} {s n : Int} : hasB L s n = false ↔ ¬ (0 ≤ s ∧ 0 ≤ n ∧ s + n ≤ L) := by simp only [hasB, decide_eq_false_iff_not]
def widthB (n : Int) : Bool := decide (n = 1 ∨ n = 2 ∨ n = 4 ∨ n = 8)
theorem widthB_iff {n : Int} : widthB n = true ↔ n = 1 ∨ n = 2 ∨ n = 4 ∨ n = 8 := by simp [widthB]

/-- cells.New. -/
theorem new_yes (n : Nat) (hn : n ≤ 1048576) (w : World) :
    Calls Tryz.prog 74 #[.int .i64 (n : Int)] w fun e w' => e = .returned (.tuple #[.pointer (some ⟨w.heap.size + 1, 0, none⟩), .int .i64 0]) ∧
      w' = (w.alloc (.cells (madeCells #[.int .u8 0] n) 5)).alloc (.cells #[.slice (some ⟨w.heap.size, 0, none⟩) n n] 173) := by
  have hmk := make_bytes n hn
  go_enter Tryz.func74, Tryz.ntmps74
  go_wp2
  go_ret2
  exact ⟨rfl, rfl⟩
theorem new_no (n : Int) (w : World) (h : n < 0 ∨ 1048576 < n) :
    Calls Tryz.prog 74 #[.int .i64 n] w fun e w' => e = .returned (.tuple #[.pointer none, .int .i64 11]) ∧ w = w' := by
  rcases h with h | h
  · have hd : decide (n < 0) = true := by simpa using h
    go_enter Tryz.func74, Tryz.ntmps74
    go_wp2
    go_ret2
    exact ⟨rfl, rfl⟩
  · have hd : decide (n < 0) = false := by simp; omega
    have hd : decide (1048576 < n) = true := by simpa using h
    go_enter Tryz.func74, Tryz.ntmps74
    go_wp2
    go_ret2
    exact ⟨rfl, rfl⟩
theorem len_any (q g L : Nat) (w : World) (hc : w.cell? ⟨q, 0, none⟩ = some (.slice (some ⟨g, 0, none⟩) L L)) :
    Calls Tryz.prog 120 #[.pointer (some ⟨q, 0, none⟩)] w fun e w' => e = .returned (.int .i64 (L : Int)) ∧ w = w' := by
  go_enter Tryz.func120, Tryz.ntmps120
  go_wp2
  go_ret
  exact ⟨rfl, rfl⟩

end Go.Proofs.YtckcgaliphpgeaaGreatDoor.Ce

/-
  What Read, Write, Move and Clone do: contracts that the claimed proofs use.
-/
namespace Go.Proofs.YtckcgaliphpgeaaGreatDoor.Ce
set_option maxRecDepth 100000
open Go.RowKit

def sub (bs : List (BitVec 8)) (s n : Nat) : List (BitVec 8) := (bs.drop s).take n
theorem sub_length {bs : List (BitVec 8)} {s n : Nat} (h : s + n ≤ bs.length) : (sub bs s n).length = n := by simp [sub]; omega
theorem sub_getD {bs : List (BitVec 8)} {s n j : Nat} (hj : j < n) : (sub bs s n).getD j 0#8 = bs.getD (s + j) 0#8 := by
  rw [List.getD_eq_getElem?_getD, List.getD_eq_getElem?_getD, sub, List.getElem?_take, if_pos hj, List.getElem?_drop]
theorem sub_all (bs : List (BitVec 8)) : sub bs 0 bs.length = bs := by simp [sub]
theorem splice_all {α : Type} (L cs : List α) (h : cs.length = L.length) : splice L 0 cs = cs := by simp [splice, h]

/-- What is left behind a call that answers a row of bytes of its own. -/
def Gave (cs : List (BitVec 8)) (w : World) (e : Ending) (w' : World) : Prop :=
  e = .returned (.tuple #[.slice (some ⟨w.heap.size, 0, none⟩) cs.length cs.length, .int .i64 0]) ∧ Row w' w.heap.size cs ∧ Below w.heap.size w w'

theorem cell_alloc {w : World} {p : Addr} (o : Obj) (h : p.block < w.heap.size) : (w.alloc o).cell? p = w.cell? p := ((Below.refl _ w).alloc (Nat.le_refl _) o).cell h
/-- copy into a row that is known whole. -/
theorem copy_run (w : World) (ty : TypeId) (dp sp : Option Addr) (dLen dCap sLen sCap : Nat)
    (g off : Nat) (cur cs : List (BitVec 8)) (hg : Row w g cur) (hn : cs.length = Nat.min sLen dLen)
    (hpos : 0 < cs.length → dp = some ⟨g, off, none⟩ ∧ ∃ sb so, sp = some ⟨sb, so, none⟩ ∧ ∀ j, j < cs.length → w.cell? ⟨sb, so + j, none⟩ = some (.int .u8 (y (cs.getD j 0#8))))
    (hfit : off + cs.length ≤ cur.length) :
    ∃ w', (Builtin.copy_ #[130, 130] ty #[.slice dp dLen dCap, .slice sp sLen sCap]).run Tryz.prog w = .ok (goInt cs.length) w' ∧ Row w' g (splice cur off cs) ∧ w.grownBy w' (some g) := by
  by_cases h0 : cs.length = 0
  · obtain rfl : cs = [] := List.eq_nil_of_length_eq_zero h0
    exact ⟨w, run_copy_none (P := Tryz.prog) w 130 130 ty 5 dp sp dLen dCap sLen sCap Tryz.underlying130 byte_size (by simpa using hn.symm), by rw [splice_nil]; exact hg, grown_refl _ _⟩
  · obtain ⟨rfl, sb, so, rfl, hsrc⟩ := hpos (by omega)
    have hsrc' : ∀ j v, (row cs)[j]? = some v → w.cell? ((⟨sb, so, none⟩ : Addr).add j) = some v := by
      intro j v hv
      have hj : j < cs.length := by
        rcases Nat.lt_or_ge j cs.length with hj | hj
        · exact hj
        · rw [List.getElem?_eq_none (by rw [row_length]; exact hj)] at hv; cases hv
      rw [row_get hj] at hv
      cases hv
      have e : (⟨sb, so, none⟩ : Addr).add j = ⟨sb, so + j, none⟩ := by unfold Addr.add; split <;> simp_all
      rw [e]; exact hsrc j hj
    have hrun := run_copy_row (P := Tryz.prog) w 130 130 ty 5 g off dLen dCap ⟨sb, so, none⟩ sLen sCap (row cur).toArray 5 (row cs) Tryz.underlying130 byte_size hg (by rw [row_length]; exact hn) hsrc' (by simpa [row_length] using hfit) (row_one cs)
    rw [row_length] at hrun
    refine ⟨_, hrun, show _ = _ from ?_, ⟨rfl, rfl, rfl, by simp [World.setRow], fun k _ hk => setRow_other w g k _ (fun e => hk (by rw [e]))⟩⟩
    have := setRow_heap w g _ ((row cur).take off ++ row cs ++ (row cur).drop (off + cs.length)).toArray 5 _ hg
    rw [show (row cur).toArray.toList = row cur from rfl, this, ← row_splice, splice, row_length, List.append_assoc]

/-- A row of bytes that came in, or that was answered: nil, or cells one after another. -/
def BS (w : World) (v : Value) (bs : List (BitVec 8)) : Prop :=
  (v = .slice none 0 0 ∧ bs = []) ∨ ∃ b o c, v = .slice (some ⟨b, o, none⟩) bs.length c ∧ bs.length ≤ c ∧ ∀ j, j < bs.length → w.cell? ⟨b, o + j, none⟩ = some (.int .u8 (y (bs.getD j 0#8)))
def Cloned (bs : List (BitVec 8)) (w : World) (e : Ending) (w' : World) : Prop :=
  ∃ p, e = .returned (.pointer (some ⟨p, 0, none⟩)) ∧ w.heap.size ≤ p ∧ Mem w' p w.heap.size bs ∧ Below w.heap.size w w'
end Go.Proofs.YtckcgaliphpgeaaGreatDoor.Ce
