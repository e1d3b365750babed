/-
  What a map of pages is in memory: laws that the claimed proofs use.
-/
import Derived.Test.YtjnknnakllbaaaaGreatRaPack
import Derived.Test.YtjnknnakllbaaaaGreatRaBase
import Derived.BigRegion
import Derived.RegionTactic
import Derived.Deep.RegionLaw
import Derived.Deep.WholeRow
import Derived.Deep.MidRow
import Derived.Laws.Rows
import Derived.Laws.Tables
import Derived.Laws.StructEq
import Derived.ChangeKeysEq
namespace Go.Proofs.YtjnknnakllbaaaaGreat.Ra
set_option maxRecDepth 100000
open Go.RowKit

/-! ### Worlds -/
theorem up_trans {w W w2 : World} (h : Below w.heap.size w W) (h2 : Below W.heap.size W w2) : Below w.heap.size w w2 := h.trans (h2.mono h.size)
theorem i64_in (n : Int) (h0 : -4611686018427387904 ≤ n) (h1 : n ≤ 4611686018427387904) : IntKind.i64.wrap n = n := by rw [IntKind.wrap_i64]; omega
theorem drewN_heap (w : World) : ∀ j, (w.drewN j).heap = w.heap
  | 0 => rfl
  | j + 1 => drewN_heap w j
theorem grown_set (w : World) (g i : Nat) (v : Value) : w.grownBy (w.setCell ⟨g, i, none⟩ v) (some g) :=
  ⟨rfl, rfl, rfl, by simp [World.setCell], fun k _ hr => Below.heap_setCell _ _ _ _ (fun e => hr (by simpa using e))⟩
abbrev Gs := Nat → Option Nat
/-- Of the blocks that there were, q and those that g names alone may have changed. -/
structure Fr (q : Nat) (g : Gs) (w w' : World) : Prop where
  os : w'.os = w.os
  tape : w'.tape = w.tape
  output : w'.output = w.output
  size : w.heap.size ≤ w'.heap.size
  block : ∀ k, k < w.heap.size → k ≠ q → (∀ i, i < 64 → g i ≠ some k) → w'.heap[k]? = w.heap[k]?
/-- What g' names are blocks that g names, or new ones. -/
def Newer (B : Nat) (g g' : Gs) : Prop := ∀ i b, i < 64 → g' i = some b → g i = some b ∨ B ≤ b
theorem Newer.refl (B : Nat) (g : Gs) : Newer B g g := fun _ _ _ h => .inl h
theorem Newer.trans {B B' : Nat} {g g' g'' : Gs} (h : Newer B g g') (k : Newer B' g' g'') (hB : B ≤ B') : Newer B g g'' := fun i b hi e => by
  rcases k i b hi e with e | e
  · exact h i b hi e
  · exact .inr (by omega)
theorem Fr.refl (q : Nat) (g : Gs) (w : World) : Fr q g w w := ⟨rfl, rfl, rfl, Nat.le_refl _, fun _ _ _ _ => rfl⟩
theorem Fr.of {q : Nat} {g : Gs} {a b : World} (h : Below a.heap.size a b) : Fr q g a b := ⟨h.os, h.tape, h.output, h.size, fun k hk _ _ => h.block k hk⟩
theorem Fr.ofq {q : Nat} {g : Gs} {a b : World} (h : a.grownBy b (some q)) : Fr q g a b := ⟨h.os, h.tape, h.output, h.size, fun k hk h1 _ => h.block k hk (by simpa using h1)⟩
theorem Fr.ofg {q i b' : Nat} {g : Gs} {a b : World} (h : a.grownBy b (some b')) (hi : i < 64) (hg : g i = some b') : Fr q g a b :=
  ⟨h.os, h.tape, h.output, h.size, fun k hk _ h2 => h.block k hk (fun e => h2 i hi (by rw [hg, e]))⟩
theorem Fr.trans {q : Nat} {g g' : Gs} {a b c : World} (h : Fr q g a b) (k : Fr q g' b c) (hn : Newer a.heap.size g g') : Fr q g a c :=
  ⟨k.os.trans h.os, k.tape.trans h.tape, k.output.trans h.output, Nat.le_trans h.size k.size, fun i hi h1 h2 => (k.block i (Nat.lt_of_lt_of_le hi h.size) h1 (fun j hj e => by
    rcases hn j i hj e with e | e
    · exact h2 j hj e
    · omega)).trans (h.block i hi h1 h2)⟩
theorem Fr.below {q B : Nat} {g : Gs} {a b : World} (h : Fr q g a b) (h1 : B ≤ q) (h2 : ∀ i b, i < 64 → g i = some b → B ≤ b) (hB : B ≤ a.heap.size) : Below B a b :=
  ⟨h.os, h.tape, h.output, h.size, fun k hk => h.block k (by omega) (by omega) (fun i hi e => by have := h2 i k hi e; omega)⟩

/-! ### Rows of cells -/
def Blk (w : World) (g : Nat) (vs : List Value) (t : TypeId) : Prop := w.heap[g]? = some (.cells vs.toArray t (0, 0))
theorem Blk.cell {w : World} {g i : Nat} {vs : List Value} {t : TypeId} (h : Blk w g vs t) : w.cell? ⟨g, i, none⟩ = vs[i]? := by
  rw [cell_of_row w g i _ t (0, 0) h]; simp
theorem Blk.frozen {w : World} {g : Nat} {vs : List Value} {t : TypeId} (h : Blk w g vs t) (i : Nat) : w.frozen? ⟨g, i, none⟩ = false := frozen_of_row w g i _ t h
theorem Blk.lt {w : World} {g : Nat} {vs : List Value} {t : TypeId} (h : Blk w g vs t) : g < w.heap.size := (Array.getElem?_eq_some_iff.1 h).1
theorem Blk.of {w w' : World} {g : Nat} {vs : List Value} {t : TypeId} (h : Blk w g vs t) (e : w'.heap[g]? = w.heap[g]?) : Blk w' g vs t := e.trans h
theorem Blk.below {B : Nat} {w w' : World} {g : Nat} {vs : List Value} {t : TypeId} (h : Blk w g vs t) (hb : Below B w w') (hg : g < B) : Blk w' g vs t := h.of (hb.block g hg)
theorem Blk.set {w : World} {g i : Nat} {vs : List Value} {t : TypeId} (h : Blk w g vs t) (v : Value) : Blk (w.setCell ⟨g, i, none⟩ v) g (vs.set i v) t := by
  have := heap_setCell_same w g i _ t v h
  unfold Blk
  rw [this]
  simp
theorem Blk.far {w : World} {g g' i : Nat} {vs : List Value} {t : TypeId} (h : Blk w g vs t) (v : Value) (hne : g' ≠ g) : Blk (w.setCell ⟨g', i, none⟩ v) g vs t :=
  h.of (Below.heap_setCell _ _ _ _ (fun e => hne e.symm))
theorem Blk.alloc {w : World} {g : Nat} {vs : List Value} {t : TypeId} (h : Blk w g vs t) (o : Obj) : Blk (w.alloc o) g vs t := h.of (Below.heap_alloc _ _ _ h.lt)
theorem Blk.ne {w : World} {g g' : Nat} {vs vs' : List Value} {t t' : TypeId} (h : Blk w g vs t) (h' : Blk w g' vs' t') (ht : t ≠ t') : g ≠ g' := fun e => by
  subst e
  have : some (Obj.cells vs.toArray t (0, 0)) = some (.cells vs'.toArray t' (0, 0)) := h.symm.trans h'
  injection this with this
  injection this with _ this _
  exact ht this

/-! ### A map of pages -/
def ptr (o : Option Nat) : Value := .pointer (o.map fun b => ⟨b, 0, none⟩)
def ps (g : Gs) : List Value := (List.range 64).map fun i => ptr (g i)
def mc (n t : Int) (g : Gs) : List Value := .int .i64 n :: .int .u64 t :: ps g
def lw (f : Ws) (i : Nat) : List Value := (List.range 64).map fun j => .int .u64 (f (64 * i + j))
theorem ps_at (g : Gs) {i : Nat} (h : i < 64) : (ps g)[i]? = some (ptr (g i)) := by unfold ps; rw [List.getElem?_map, List.getElem?_range h]; rfl
theorem mc_at (n t : Int) (g : Gs) {i : Nat} (h : i < 64) : (mc n t g)[2 + i]? = some (ptr (g i)) := by
  unfold mc; rw [Nat.add_comm, List.getElem?_cons_succ, List.getElem?_cons_succ, ps_at g h]
theorem lw_at (f : Ws) (i : Nat) {j : Nat} (h : j < 64) : (lw f i)[j]? = some (.int .u64 (f (64 * i + j))) := by unfold lw; rw [List.getElem?_map, List.getElem?_range h]; rfl
def upg (g : Gs) (k : Nat) (o : Option Nat) : Gs := fun i => if i = k then o else g i
theorem map_set {α : Type} (f g : Nat → α) (k : Nat) (v : α) (h : ∀ i, i < 64 → f i = if i = k then v else g i) : ((List.range 64).map g).set k v = (List.range 64).map f := by
  apply List.ext_getElem?
  intro i
  rw [List.getElem?_set]
  simp only [List.length_map, List.length_range, List.getElem?_map]
  by_cases hi : i < 64
  · rw [List.getElem?_range hi]
    by_cases hk : k = i
    · subst hk; rw [if_pos rfl, if_pos hi]; simp [h k hi]
    · rw [if_neg hk]; simp [h i hi, Ne.symm hk]
  · rw [List.getElem?_eq_none (by simp; omega)]
    by_cases hk : k = i
    · subst hk; rw [if_pos rfl, if_neg hi]; simp
    · rw [if_neg hk]; simp
theorem ps_set (g : Gs) (k : Nat) (o : Option Nat) : (ps g).set k (ptr o) = ps (upg g k o) := by
  unfold ps; exact map_set _ _ _ _ (fun i _ => by unfold upg; split <;> rfl)
theorem mc_set (n t : Int) (g : Gs) (k : Nat) (o : Option Nat) : (mc n t g).set (2 + k) (ptr o) = mc n t (upg g k o) := by
  unfold mc; rw [Nat.add_comm, List.set_cons_succ, List.set_cons_succ, ps_set]
theorem mc_stamp (n t t' : Int) (g : Gs) : (mc n t g).set 1 (.int .u64 t') = mc n t' g := rfl
theorem lw_set (f : Ws) (i j : Nat) (x : Int) : (lw f i).set j (.int .u64 x) = lw (upf f (64 * i + j) x) i := by
  unfold lw; exact map_set _ _ _ _ (fun k _ => by
    unfold upf
    by_cases e : k = j
    · rw [if_pos (by omega), if_pos e]
    · rw [if_neg (by omega), if_neg e])
theorem lw_same {f f' : Ws} {i : Nat} (h : ∀ j, j < 64 → f (64 * i + j) = f' (64 * i + j)) : lw f i = lw f' i := by
  unfold lw; apply List.map_congr_left; intro j hj; rw [h j (by simpa using hj)]
theorem lw_far {f : Ws} {i k : Nat} (x : Int) (h : k / 64 ≠ i) : lw (upf f k x) i = lw f i := lw_same fun j hj => by
  unfold upf; rw [if_neg (fun e => h (by omega))]
/-- The map at q has pages' words f, in leaves that g names, and the stamp t. -/
structure Lay (w : World) (q : Nat) (n t : Int) (g : Gs) (f : Ws) : Prop where
  blk : Blk w q (mc n t g) 129
  leaf : ∀ i b, i < 64 → g i = some b → Blk w b (lw f i) 146
  none : ∀ i, i < 64 → g i = none → ∀ j, j < 64 → f (64 * i + j) = 0
  one : ∀ i j b, i < 64 → j < 64 → g i = some b → g j = some b → i = j
/-- A leaf is kept just if one of its pages has an entry. -/
def Kept (g : Gs) (f : Ws) : Prop := ∀ i, i < 64 → (g i).isSome = lfB f i
section
variable {w w' : World} {q : Nat} {n t : Int} {g : Gs} {f : Ws}
theorem Lay.of (h : Lay w q n t g f) (h1 : w'.heap[q]? = w.heap[q]?) (h2 : ∀ i b, i < 64 → g i = some b → w'.heap[b]? = w.heap[b]?) : Lay w' q n t g f :=
  ⟨h.blk.of h1, fun i b hi e => (h.leaf i b hi e).of (h2 i b hi e), h.none, h.one⟩
theorem Lay.below (h : Lay w q n t g f) (hb : Below w.heap.size w w') : Lay w' q n t g f :=
  h.of (hb.block q h.blk.lt) (fun i b hi e => hb.block b (h.leaf i b hi e).lt)
theorem Lay.ne (h : Lay w q n t g f) {i b : Nat} (hi : i < 64) (hb : g i = some b) : b ≠ q := (h.leaf i b hi hb).ne h.blk (by decide)
/-- A map that shares no block with what has changed is as it was. -/
theorem Lay.apart {q' : Nat} {g' : Gs} (h : Lay w q n t g f) (hf : Fr q' g' w w') (hq : q ≠ q') (h1 : ∀ i, i < 64 → g' i ≠ some q) (h2 : ∀ i b, i < 64 → g i = some b → b ≠ q' ∧ ∀ j, j < 64 → g' j ≠ some b) : Lay w' q n t g f :=
  h.of (hf.block q h.blk.lt hq h1) (fun i b hi e => hf.block b (h.leaf i b hi e).lt (h2 i b hi e).1 (h2 i b hi e).2)
theorem Lay.stamp (h : Lay w q n t g f) (t' : Int) : Lay (w.setCell ⟨q, 1, .none⟩ (.int .u64 t')) q n t' g f :=
  ⟨by have := h.blk.set (i := 1) (.int .u64 t'); rwa [mc_stamp] at this, fun i b hi e => (h.leaf i b hi e).far _ (h.ne hi e).symm, h.none, h.one⟩
theorem Lay.put (h : Lay w q n t g f) {i j b : Nat} (hi : i < 64) (hj : j < 64) (hb : g i = some b) (x : Int) : Lay (w.setCell ⟨b, j, .none⟩ (.int .u64 x)) q n t g (upf f (64 * i + j) x) := by
  refine ⟨h.blk.far _ (h.ne hi hb), fun k c hk e => ?_, fun k hk e m hm => ?_, h.one⟩
  · by_cases ek : k = i
    · subst ek
      obtain rfl : b = c := by rw [hb] at e; exact Option.some.inj e
      have := (h.leaf k b hk hb).set (i := j) (.int .u64 x)
      rwa [lw_set] at this
    · have hc : b ≠ c := fun ec => ek (h.one k i c hk hi e (by rw [hb, ec]))
      have := (h.leaf k c hk e).far (i := j) (.int .u64 x) hc
      rwa [lw_far x (by omega)]
  · unfold upf
    rw [if_neg (fun ee => by have : k = i := by omega
                             rw [this, hb] at e; cases e)]
    exact h.none k hk e m hm
theorem lw_zero {f : Ws} {i : Nat} (h : ∀ j, j < 64 → f (64 * i + j) = 0) : lw f i = lw (fun _ => 0) 0 := by
  unfold lw; apply List.map_congr_left; intro j hj; rw [h j (by simpa using hj)]
theorem Lay.grow (h : Lay w q n t g f) {i : Nat} (hi : i < 64) (hg : g i = .none) :
    Lay ((w.setCell ⟨q, 2 + i, .none⟩ (.pointer (some ⟨w.heap.size, 0, .none⟩))).alloc (.cells (lw (fun _ => 0) 0).toArray 146)) q n t (upg g i (some w.heap.size)) f := by
  have hsz : (w.setCell ⟨q, 2 + i, .none⟩ (.pointer (some ⟨w.heap.size, 0, .none⟩))).heap.size = w.heap.size := by simp [World.setCell]
  refine ⟨?_, fun k c hk e => ?_, fun k hk e => ?_, fun k k' c hk hk' e e' => ?_⟩
  · have := (h.blk.set (i := 2 + i) (ptr (some w.heap.size))).alloc (.cells (lw (fun _ => 0) 0).toArray 146)
    rwa [mc_set] at this
  · unfold upg at e
    by_cases ek : k = i
    · rw [if_pos ek] at e
      obtain rfl := Option.some.inj e
      subst ek
      rw [lw_zero (h.none k hk hg)]
      have := heap_alloc_last (w.setCell ⟨q, 2 + k, .none⟩ (.pointer (some ⟨w.heap.size, 0, .none⟩))) (.cells (lw (fun _ => 0) 0).toArray 146)
      rw [hsz] at this
      exact this
    · rw [if_neg ek] at e
      exact ((h.leaf k c hk e).far _ (h.ne hk e).symm).alloc _
  · unfold upg at e
    by_cases ek : k = i
    · rw [if_pos ek] at e; cases e
    · rw [if_neg ek] at e; exact h.none k hk e
  · unfold upg at e e'
    by_cases ek : k = i
    · by_cases ek' : k' = i
      · omega
      · rw [if_pos ek] at e; rw [if_neg ek'] at e'
        obtain rfl := Option.some.inj e
        have := (h.leaf k' _ hk' e').lt; omega
    · rw [if_neg ek] at e
      by_cases ek' : k' = i
      · rw [if_pos ek'] at e'
        obtain rfl := Option.some.inj e'
        have := (h.leaf k _ hk e).lt; omega
      · rw [if_neg ek'] at e'; exact h.one k k' c hk hk' e e'
theorem Lay.drop (h : Lay w q n t g f) {i : Nat} (hf : lfB f i = false) : Lay (w.setCell ⟨q, 2 + i, .none⟩ (.pointer .none)) q n t (upg g i .none) f := by
  refine ⟨?_, fun k c hk e => ?_, fun k hk e => ?_, fun k k' c hk hk' e e' => ?_⟩
  · have := h.blk.set (i := 2 + i) (ptr .none)
    rwa [mc_set] at this
  · unfold upg at e
    by_cases ek : k = i
    · rw [if_pos ek] at e; cases e
    · rw [if_neg ek] at e
      exact (h.leaf k c hk e).far _ (h.ne hk e).symm
  · by_cases ek : k = i
    · rw [ek]; exact lfB_no.1 hf
    · unfold upg at e; rw [if_neg ek] at e; exact h.none k hk e
  · unfold upg at e e'
    by_cases ek : k = i
    · rw [if_pos ek] at e; cases e
    · by_cases ek' : k' = i
      · rw [if_pos ek'] at e'; cases e'
      · rw [if_neg ek] at e; rw [if_neg ek'] at e'; exact h.one k k' c hk hk' e e'
theorem newer_grow (B b : Nat) (i : Nat) (g : Gs) (h : B ≤ b) : Newer B g (upg g i (some b)) := fun k c _ e => by
  unfold upg at e; split at e
  · obtain rfl := Option.some.inj e; exact .inr h
  · exact .inl e
theorem newer_drop (B : Nat) (i : Nat) (g : Gs) : Newer B g (upg g i none) := fun k c _ e => by
  unfold upg at e; split at e
  · cases e
  · exact .inl e
/-- What the map's cells read as. -/
theorem Lay.c0 (h : Lay w q n t g f) : w.cell? ⟨q, 0, .none⟩ = some (.int .i64 n) := h.blk.cell
theorem Lay.c1 (h : Lay w q n t g f) : w.cell? ⟨q, 1, .none⟩ = some (.int .u64 t) := h.blk.cell
theorem Lay.cp (h : Lay w q n t g f) {i : Nat} (hi : i < 64) : w.cell? ⟨q, 2 + i, .none⟩ = some (ptr (g i)) := by rw [h.blk.cell, mc_at n t g hi]
theorem Lay.cw (h : Lay w q n t g f) {i j b : Nat} (hi : i < 64) (hj : j < 64) (hb : g i = some b) : w.cell? ⟨b, j, .none⟩ = some (.int .u64 (f (64 * i + j))) := by rw [(h.leaf i b hi hb).cell, lw_at f i hj]
end

/-! ### Operations on many cells -/
section
variable {P : Program} {ops : Array Oper} {rest : List Oper} {o : Oper} {a : Act} {w : World} {Q : Exit → Act → World → Prop}
theorem wpList_alloc_big (hg : o.guard = none) (t : TypeId) (ho : o.op = .alloc t) (cells : Array Value) (hz : ∀ w, (zeroValue t).run P w = .ok (.agg cells) w)
    (h : wpList P ops Q rest (a.put o.dst (.pointer (some ⟨w.heap.size, 0, none⟩))) (w.alloc (.cells cells t))) : wpList P ops Q (o :: rest) a w := by
  refine wpList_plain hg fun K hK => ?_
  unfold Oper.wp execOp
  simp only [ho, Sem.run_bind, Instr.alloc, hz, newVar, newRow, run_newObj_alloc, Sem.run_pure, Result.andThen_ok, Value.cells]
  exact hK _ _ h
theorem wpList_box_big (hg : o.guard = none) (t : TypeId) (x : Operand) (ho : o.op = .box t x) (cells : Array Value) (hx : a.eval x = .agg cells)
    (h : wpList P ops Q rest (a.put o.dst (.pointer (some ⟨w.heap.size, 0, none⟩))) (w.alloc (.cells cells t))) : wpList P ops Q (o :: rest) a w := by
  refine wpList_plain hg fun K hK => ?_
  unfold Oper.wp execOp
  simp only [ho, hx, Sem.run_bind, Instr.box, newVar, newRow, run_newObj_alloc, Sem.run_pure, Result.andThen_ok, Value.cells]
  exact hK _ _ h
/-- A store of a whole value into the block that was made last. -/
theorem wpList_store_last (hgd : o.guard = none) (ty : TypeId) (x y : Operand) (ho : o.op = .store ty x y) (w : World)
    (cells : Array Value) (hx : a.eval x = .pointer (some ⟨w.heap.size, 0, none⟩)) (hy : a.eval y = .agg cells)
    (t : TypeId) (old : Array Value) (hi : (P.info? ty).map (·.size) = some cells.size) (hold : old.size = cells.size) (h1 : cells.all (·.oneCell') = true)
    (h : wpList P ops Q rest (a.put o.dst undef) (w.alloc (.cells cells t))) : wpList P ops Q (o :: rest) a (w.alloc (.cells old t)) := by
  refine wpList_store_row hgd ty x y ho w.heap.size cells hx hy t old (heap_alloc_last w _) hi hold h1 ?_
  rw [World.setRow_alloc_new]
  exact h
end
end Go.Proofs.YtjnknnakllbaaaaGreat.Ra
