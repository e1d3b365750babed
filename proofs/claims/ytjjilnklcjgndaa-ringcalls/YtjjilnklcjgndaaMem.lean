/-
  What items in lists are, as the walk meets them: four rows of numbers, and the cells that name them; laws on both that the claimed proofs use.
-/
import Derived.Test.YtjjilnklcjgndaaBase
import Derived.WalkKit
import Derived.WalkSpells
import Derived.WalkLawsBesides
import Derived.RegionTactic
import Derived.BigRegion
import Derived.Deep.QuietTactic
import Derived.BigQuiet
import Derived.Deep.RegionHeld3
import Derived.Deep.RegionLaw
import Derived.Deep.AppendLies
import Derived.Laws.AppendOwnNone
import Derived.Laws.CopyOwn
import Derived.Deep.OwnRows
import Derived.Lib.Hide
namespace Go.Proofs.Ytjjilnklcjgndaa
open Go.RowKit

theorem ret_i {a b : Int} (h : a = b) : Ending.returned (.int .i64 a) = .returned (.int .i64 b) := by rw [h]
theorem ret_b {a b : Bool} (h : a = b) : Ending.returned (.bool a) = .returned (.bool b) := by rw [h]

/-! ### Worlds -/
theorem up_trans {w W w2 : World} (h : Below w.heap.size w W) (h2 : Below W.heap.size W w2) : Below w.heap.size w w2 := h.trans (h2.mono h.size)
theorem up_alloc {w W : World} (h : Below w.heap.size w W) (o : Obj) : Below w.heap.size w (W.alloc o) := h.alloc h.size o
theorem up_drew {w W : World} (h : Below w.heap.size w W) : ∀ k, Below w.heap.size w (W.drewN k)
  | 0 => h
  | k + 1 => (up_drew h k).drew
theorem i64_in (n : Int) (h0 : -1 ≤ n) (h1 : n ≤ 4611686018427387904) : IntKind.i64.wrap n = n := by rw [IntKind.wrap_i64]; omega
theorem drewN_heap (w : World) : ∀ j, (w.drewN j).heap = w.heap
  | 0 => rfl
  | j + 1 => drewN_heap w j
def Drawn (w wr : World) : Prop := ∃ j, wr = w.drewN j
theorem Drawn.refl (w : World) : Drawn w w := ⟨0, rfl⟩
theorem Drawn.on {w wr : World} (h : Drawn w wr) (n : Nat) : Drawn w (wr.drewN n) := by
  obtain ⟨j, rfl⟩ := h; exact ⟨j + n, by rw [World.drewN_drewN]⟩
theorem Drawn.below {w wr : World} (h : Drawn w wr) : Below w.heap.size w wr := by
  obtain ⟨j, rfl⟩ := h; exact up_drew (Below.refl _ w) j
theorem Drawn.heap {w wr : World} (h : Drawn w wr) : wr.heap = w.heap := by
  obtain ⟨j, rfl⟩ := h; exact drewN_heap w j
theorem Drawn.cell {w wr : World} (h : Drawn w wr) {p : Addr} {v : Value} (hc : w.cell? p = some v) : wr.cell? p = some v :=
  (h.below.cell (World.block_lt_of_cell? w p hc)).trans hc
/-- Of the blocks that there were, those from lo on and below hi alone may have changed. -/
structure Chg (lo hi : Nat) (w w' : World) : Prop where
  os : w'.os = w.os
  tape : w'.tape = w.tape
  output : w'.output = w.output
  size : w.heap.size ≤ w'.heap.size
  block : ∀ k, k < w.heap.size → k < lo ∨ hi ≤ k → w'.heap[k]? = w.heap[k]?
theorem Chg.refl (lo hi : Nat) (w : World) : Chg lo hi w w := ⟨rfl, rfl, rfl, Nat.le_refl _, fun _ _ _ => rfl⟩
theorem Chg.trans {lo hi : Nat} {a b c : World} (h : Chg lo hi a b) (k : Chg lo hi b c) : Chg lo hi a c :=
  ⟨k.os.trans h.os, k.tape.trans h.tape, k.output.trans h.output, Nat.le_trans h.size k.size, fun i hi hr => (k.block i (Nat.lt_of_lt_of_le hi h.size) hr).trans (h.block i hi hr)⟩
theorem Chg.of {lo hi : Nat} {a b : World} (h : Below a.heap.size a b) : Chg lo hi a b := ⟨h.os, h.tape, h.output, h.size, fun k hk _ => h.block k hk⟩
theorem Chg.wide {lo hi lo' hi' : Nat} {a b : World} (h : Chg lo hi a b) (h1 : lo' ≤ lo) (h2 : hi ≤ hi') : Chg lo' hi' a b := ⟨h.os, h.tape, h.output, h.size, fun k hk hr => h.block k hk (by omega)⟩
theorem Chg.set {lo hi : Nat} (w : World) {g i : Nat} (v : Value) (h1 : lo ≤ g) (h2 : g < hi) : Chg lo hi w (w.setCell ⟨g, i, none⟩ v) :=
  ⟨rfl, rfl, rfl, by simp [World.setCell], fun k _ hr => Below.heap_setCell _ _ _ _ (fun e => by simp at e; omega)⟩
theorem Chg.drew {lo hi : Nat} {a b : World} (h : Chg lo hi a b) : Chg lo hi a b.drew := ⟨h.os, h.tape, h.output, h.size, h.block⟩
theorem Chg.below {lo hi B : Nat} {a b : World} (h : Chg lo hi a b) (hB : B ≤ lo) (hs : B ≤ a.heap.size) : Below B a b := ⟨h.os, h.tape, h.output, h.size, fun k hk => h.block k (by omega) (.inl (by omega))⟩
theorem Chg.on {lo hi B : Nat} {w a b : World} (h : Chg lo hi a b) (k : Below B w a) (hB : B ≤ lo) (hs : B ≤ w.heap.size) : Below B w b := k.trans (h.below hB (Nat.le_trans hs k.size))

/-! ### Rows of cells -/
/-- A block of just these cells. -/
def Blk (w : World) (g : Nat) (vs : List Value) (t : TypeId) : Prop := w.heap[g]? = some (.cells vs.toArray t (0, 0))
theorem Blk.cell {w : World} {g i : Nat} {vs : List Value} {t : TypeId} (h : Blk w g vs t) : w.cell? ⟨g, i, none⟩ = vs[i]? := by
  rw [cell_of_row w g i _ t (0, 0) h]; simp
theorem Blk.frozen {w : World} {g : Nat} {vs : List Value} {t : TypeId} (h : Blk w g vs t) (i : Nat) : w.frozen? ⟨g, i, none⟩ = false := frozen_of_row w g i _ t h
theorem Blk.lt {w : World} {g : Nat} {vs : List Value} {t : TypeId} (h : Blk w g vs t) : g < w.heap.size := (Array.getElem?_eq_some_iff.1 h).1
theorem Blk.of {w w' : World} {g : Nat} {vs : List Value} {t : TypeId} (h : Blk w g vs t) (e : w'.heap[g]? = w.heap[g]?) : Blk w' g vs t := e.trans h
theorem Blk.set {w : World} {g i : Nat} {vs : List Value} {t : TypeId} (h : Blk w g vs t) (v : Value) : Blk (w.setCell ⟨g, i, none⟩ v) g (vs.set i v) t := by
  have := heap_setCell_same w g i _ t v h
  unfold Blk
  rw [this]
  simp
theorem Blk.made (w : World) (v : Value) (n : Nat) (t : TypeId) : Blk (w.alloc (.cells (madeCells #[v] n) t)) w.heap.size (List.replicate n v) t := by
  unfold Blk
  rw [heap_alloc_new]
  congr 2
  apply Array.ext'
  rw [toList_madeCells_one]
/-- A row of numbers; what is behind the first n cells doesn't matter. -/
def Row (w : World) (g n : Nat) (f : Nat → Int) : Prop := ∃ vs, Blk w g vs 3 ∧ ∀ i, i < n → vs[i]? = some (.int .i64 (f i))
theorem Row.cell {w : World} {g n i : Nat} {f : Nat → Int} (h : Row w g n f) (hi : i < n) : w.cell? ⟨g, i, none⟩ = some (.int .i64 (f i)) := by
  obtain ⟨vs, hb, hv⟩ := h
  rw [hb.cell]; exact hv i hi
theorem Row.frozen {w : World} {g n : Nat} {f : Nat → Int} (h : Row w g n f) (i : Nat) : w.frozen? ⟨g, i, none⟩ = false := by
  obtain ⟨vs, hb, _⟩ := h; exact hb.frozen i
theorem Row.lt {w : World} {g n : Nat} {f : Nat → Int} (h : Row w g n f) : g < w.heap.size := by obtain ⟨vs, hb, _⟩ := h; exact hb.lt
theorem Row.of {w w' : World} {g n : Nat} {f : Nat → Int} (h : Row w g n f) (e : w'.heap[g]? = w.heap[g]?) : Row w' g n f := by
  obtain ⟨vs, hb, hv⟩ := h; exact ⟨vs, hb.of e, hv⟩
theorem Row.set {w : World} {g n i : Nat} {f : Nat → Int} (h : Row w g n f) (hi : i < n) (v : Int) : Row (w.setCell ⟨g, i, none⟩ (.int .i64 v)) g n (up f i v) := by
  obtain ⟨vs, hb, hv⟩ := h
  refine ⟨_, hb.set _, fun j hj => ?_⟩
  rw [List.getElem?_set]
  by_cases e : i = j
  · subst e
    have : i < vs.length := by
      rcases Nat.lt_or_ge i vs.length with h | h
      · exact h
      · have := hv i hi; rw [List.getElem?_eq_none h] at this; simp at this
    rw [if_pos rfl, if_pos this, up_at]
  · rw [if_neg e, up_far (fun h => e h.symm)]; exact hv j hj
theorem up_cast (f : Nat → Nat) (i v : Nat) : up (fun j => (f j : Int)) i (v : Int) = fun j => ((up f i v j : Nat) : Int) := by
  funext j; unfold up; split <;> rfl
theorem Row.setn {w : World} {g n i : Nat} {f : Nat → Nat} (h : Row w g n (fun j => (f j : Int))) (hi : i < n) (v : Nat) : Row (w.setCell ⟨g, i, none⟩ (.int .i64 (v : Int))) g n (fun j => ((up f i v j : Nat) : Int)) := by
  have := h.set hi (v : Int)
  rwa [up_cast] at this
theorem Row.made (w : World) (n : Nat) : Row (w.alloc (.cells (madeCells #[.int .i64 0] n) 3)) w.heap.size n (fun _ => 0) :=
  ⟨_, Blk.made w _ n 3, fun i hi => by rw [List.getElem?_replicate, if_pos hi]⟩

/-! ### Items in lists -/
/-- Where it all lies, and how much of it there is. -/
structure Pl where
  lo : Nat
  hi : Nat
  q : Nat
  a : Nat
  b : Nat
  c : Nat
  d : Nat
  ca : Nat
  cb : Nat
  cc : Nat
  cd : Nat
  n : Nat
  m : Nat
structure Pl.ok (p : Pl) : Prop where
  qa : p.q ≠ p.a
  qb : p.q ≠ p.b
  qc : p.q ≠ p.c
  qd : p.q ≠ p.d
  ab : p.a ≠ p.b
  ac : p.a ≠ p.c
  ad : p.a ≠ p.d
  bc : p.b ≠ p.c
  bd : p.b ≠ p.d
  cd' : p.c ≠ p.d
  q1 : p.lo ≤ p.q ∧ p.q < p.hi
  a1 : p.lo ≤ p.a ∧ p.a < p.hi
  b1 : p.lo ≤ p.b ∧ p.b < p.hi
  c1 : p.lo ≤ p.c ∧ p.c < p.hi
  d1 : p.lo ≤ p.d ∧ p.d < p.hi
  n1 : p.n ≤ 4096
  m1 : p.m ≤ 256
structure RM (w : World) (p : Pl) (inn : Nat → Int) (cs nx pv : Nat → Nat) : Prop where
  ok : p.ok
  sz : p.hi ≤ w.heap.size
  s0 : w.cell? ⟨p.q, 0, none⟩ = some (.slice (some ⟨p.a, 0, none⟩) p.n p.ca)
  s1 : w.cell? ⟨p.q, 1, none⟩ = some (.slice (some ⟨p.b, 0, none⟩) p.m p.cb)
  s2 : w.cell? ⟨p.q, 2, none⟩ = some (.slice (some ⟨p.c, 0, none⟩) (p.n + p.m) p.cc)
  s3 : w.cell? ⟨p.q, 3, none⟩ = some (.slice (some ⟨p.d, 0, none⟩) (p.n + p.m) p.cd)
  r0 : Row w p.a p.n inn
  r1 : Row w p.b p.m (fun i => (cs i : Int))
  r2 : Row w p.c (p.n + p.m) (fun i => (nx i : Int))
  r3 : Row w p.d (p.n + p.m) (fun i => (pv i : Int))
theorem cell_same {w w' : World} {g i : Nat} (e : w'.heap[g]? = w.heap[g]?) : w'.cell? ⟨g, i, none⟩ = w.cell? ⟨g, i, none⟩ := by simp [World.cell?, e]
theorem RM.of {w w' : World} {p : Pl} {inn : Nat → Int} {cs nx pv : Nat → Nat} (h : RM w p inn cs nx pv) (hs : w.heap.size ≤ w'.heap.size) (he : ∀ k, p.lo ≤ k → k < p.hi → w'.heap[k]? = w.heap[k]?) : RM w' p inn cs nx pv :=
  have o := h.ok
  have e := he p.q o.q1.1 o.q1.2
  ⟨o, Nat.le_trans h.sz hs, (cell_same e).trans h.s0, (cell_same e).trans h.s1, (cell_same e).trans h.s2, (cell_same e).trans h.s3, h.r0.of (he _ o.a1.1 o.a1.2), h.r1.of (he _ o.b1.1 o.b1.2), h.r2.of (he _ o.c1.1 o.c1.2), h.r3.of (he _ o.d1.1 o.d1.2)⟩
theorem RM.below {w w' : World} {p : Pl} {inn : Nat → Int} {cs nx pv : Nat → Nat} (h : RM w p inn cs nx pv) (hb : Below w.heap.size w w') : RM w' p inn cs nx pv := h.of hb.size fun k _ hk => hb.block k (Nat.lt_of_lt_of_le hk h.sz)
theorem RM.far {w w' : World} {p : Pl} {inn : Nat → Int} {cs nx pv : Nat → Nat} {lo hi : Nat} (h : RM w p inn cs nx pv) (hb : Chg lo hi w w') (hd : p.hi ≤ lo ∨ hi ≤ p.lo) : RM w' p inn cs nx pv := h.of hb.size fun k h1 hk => hb.block k (Nat.lt_of_lt_of_le hk h.sz) (by omega)
theorem RM.drew {w : World} {p : Pl} {inn : Nat → Int} {cs nx pv : Nat → Nat} (h : RM w p inn cs nx pv) : RM w.drew p inn cs nx pv := h.below ((Below.refl _ w).drew)
theorem set_far {w : World} {g k i : Nat} (v : Value) (h : k ≠ g) : (w.setCell ⟨g, i, none⟩ v).heap[k]? = w.heap[k]? := Below.heap_setCell _ _ _ _ (fun e => h e)
theorem set_size (w : World) (a : Addr) (v : Value) : (w.setCell a v).heap.size = w.heap.size := by simp [World.setCell]
theorem RM.set0 {w : World} {p : Pl} {inn : Nat → Int} {cs nx pv : Nat → Nat} (h : RM w p inn cs nx pv) {i : Nat} (hi : i < p.n) (v : Int) : RM (w.setCell ⟨p.a, i, none⟩ (.int .i64 v)) p (up inn i v) cs nx pv :=
  have o := h.ok
  have e := set_far (w := w) (i := i) (.int .i64 v) o.qa
  ⟨o, by rw [set_size]; exact h.sz, (cell_same e).trans h.s0, (cell_same e).trans h.s1, (cell_same e).trans h.s2, (cell_same e).trans h.s3, h.r0.set hi v, h.r1.of (set_far _ o.ab.symm), h.r2.of (set_far _ o.ac.symm), h.r3.of (set_far _ o.ad.symm)⟩
theorem RM.set1 {w : World} {p : Pl} {inn : Nat → Int} {cs nx pv : Nat → Nat} (h : RM w p inn cs nx pv) {i : Nat} (hi : i < p.m) (v : Nat) : RM (w.setCell ⟨p.b, i, none⟩ (.int .i64 (v : Int))) p inn (up cs i v) nx pv :=
  have o := h.ok
  have e := set_far (w := w) (i := i) (.int .i64 (v : Int)) o.qb
  ⟨o, by rw [set_size]; exact h.sz, (cell_same e).trans h.s0, (cell_same e).trans h.s1, (cell_same e).trans h.s2, (cell_same e).trans h.s3, h.r0.of (set_far _ o.ab), h.r1.setn hi v, h.r2.of (set_far _ o.bc.symm), h.r3.of (set_far _ o.bd.symm)⟩
theorem RM.set2 {w : World} {p : Pl} {inn : Nat → Int} {cs nx pv : Nat → Nat} (h : RM w p inn cs nx pv) {i : Nat} (hi : i < p.n + p.m) (v : Nat) : RM (w.setCell ⟨p.c, i, none⟩ (.int .i64 (v : Int))) p inn cs (up nx i v) pv :=
  have o := h.ok
  have e := set_far (w := w) (i := i) (.int .i64 (v : Int)) o.qc
  ⟨o, by rw [set_size]; exact h.sz, (cell_same e).trans h.s0, (cell_same e).trans h.s1, (cell_same e).trans h.s2, (cell_same e).trans h.s3, h.r0.of (set_far _ o.ac), h.r1.of (set_far _ o.bc), h.r2.setn hi v, h.r3.of (set_far _ o.cd'.symm)⟩
theorem RM.set3 {w : World} {p : Pl} {inn : Nat → Int} {cs nx pv : Nat → Nat} (h : RM w p inn cs nx pv) {i : Nat} (hi : i < p.n + p.m) (v : Nat) : RM (w.setCell ⟨p.d, i, none⟩ (.int .i64 (v : Int))) p inn cs nx (up pv i v) :=
  have o := h.ok
  have e := set_far (w := w) (i := i) (.int .i64 (v : Int)) o.qd
  ⟨o, by rw [set_size]; exact h.sz, (cell_same e).trans h.s0, (cell_same e).trans h.s1, (cell_same e).trans h.s2, (cell_same e).trans h.s3, h.r0.of (set_far _ o.ad), h.r1.of (set_far _ o.bd), h.r2.of (set_far _ o.cd'), h.r3.setn hi v⟩
/-- Items in these lists. -/
def Ring (w : World) (p : Pl) (L : Nat → List Nat) : Prop := ∃ inn cs nx pv, RM w p inn cs nx pv ∧ Fits p.n p.m L inn cs nx pv
theorem Ring.below {w w' : World} {p : Pl} {L : Nat → List Nat} (h : Ring w p L) (hb : Below w.heap.size w w') : Ring w' p L := by
  obtain ⟨inn, cs, nx, pv, h, hf⟩ := h; exact ⟨inn, cs, nx, pv, h.below hb, hf⟩
theorem Ring.far {w w' : World} {p : Pl} {L : Nat → List Nat} {lo hi : Nat} (h : Ring w p L) (hb : Chg lo hi w w') (hd : p.hi ≤ lo ∨ hi ≤ p.lo) : Ring w' p L := by
  obtain ⟨inn, cs, nx, pv, h, hf⟩ := h; exact ⟨inn, cs, nx, pv, h.far hb hd, hf⟩
theorem Ring.good {w : World} {p : Pl} {L : Nat → List Nat} (h : Ring w p L) : Good p.n p.m L := by obtain ⟨_, _, _, _, _, hf⟩ := h; exact hf.good
theorem Ring.ok {w : World} {p : Pl} {L : Nat → List Nat} (h : Ring w p L) : p.ok := by obtain ⟨_, _, _, _, h, _⟩ := h; exact h.ok
theorem Ring.sz {w : World} {p : Pl} {L : Nat → List Nat} (h : Ring w p L) : p.hi ≤ w.heap.size := by obtain ⟨_, _, _, _, h, _⟩ := h; exact h.sz
end Go.Proofs.Ytjjilnklcjgndaa
