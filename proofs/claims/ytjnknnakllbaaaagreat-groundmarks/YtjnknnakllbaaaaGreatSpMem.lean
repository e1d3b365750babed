/-
  What runs of pages are, as the walk meets them: a row of cells, three to a run; laws on it that the claimed proofs use.
-/
import Derived.Test.YtjnknnakllbaaaaGreatSpRuns
import Derived.Test.YtjnknnakllbaaaaGreatSpSmall
import Derived.RegionTactic
import Derived.BigRegion
import Derived.Deep.RegionLaw
import Derived.Deep.AppendLies
import Derived.Laws.AppendOwnNone
import Derived.Laws.CopyOwn
import Derived.Deep.OwnRows
import Derived.Lib.Overlaps
namespace Go.Proofs.YtjnknnakllbaaaaGreat.Sp
set_option maxRecDepth 100000
open Go.RowKit

/-! ### Worlds -/
theorem up_trans {w W w2 : World} (h : Below w.heap.size w W) (h2 : Below W.heap.size W w2) : Below w.heap.size w w2 := h.trans (h2.mono h.size)
theorem up_alloc {w W : World} (h : Below w.heap.size w W) (o : Obj) : Below w.heap.size w (W.alloc o) := h.alloc h.size o
theorem up_drew {w W : World} (h : Below w.heap.size w W) : ∀ k, Below w.heap.size w (W.drewN k)
  | 0 => h
  | k + 1 => (up_drew h k).drew
theorem i64_in (n : Int) (h0 : -1 ≤ n) (h1 : n ≤ 4611686018427387904) : IntKind.i64.wrap n = n := by rw [IntKind.wrap_i64]; omega
theorem drewN_heap (w : World) : ∀ j, (w.drewN j).heap = w.heap
  | 0 => rfl
  | j + 1 => drewN_heap w j
def Drawn (w wr : World) : Prop := ∃ j, wr = w.drewN j
theorem Drawn.refl (w : World) : Drawn w w := ⟨0, rfl⟩
theorem Drawn.on {w wr : World} (h : Drawn w wr) (n : Nat) : Drawn w (wr.drewN n) := by
  obtain ⟨j, rfl⟩ := h; exact ⟨j + n, by rw [World.drewN_drewN]⟩
theorem Drawn.trans {w wr w2 : World} (h : Drawn w wr) (h2 : Drawn wr w2) : Drawn w w2 := by obtain ⟨j, rfl⟩ := h2; exact h.on j
theorem Drawn.below {w wr : World} (h : Drawn w wr) : Below w.heap.size w wr := by
  obtain ⟨j, rfl⟩ := h; exact up_drew (Below.refl _ w) j
theorem Drawn.heap {w wr : World} (h : Drawn w wr) : wr.heap = w.heap := by
  obtain ⟨j, rfl⟩ := h; exact drewN_heap w j
theorem Drawn.cell {w wr : World} (h : Drawn w wr) {p : Addr} {v : Value} (hc : w.cell? p = some v) : wr.cell? p = some v :=
  (h.below.cell (World.block_lt_of_cell? w p hc)).trans hc
theorem grown_refl (w : World) (r : Option Nat) : w.grownBy w r := ⟨rfl, rfl, rfl, Nat.le_refl _, fun _ _ _ => rfl⟩
theorem grown_below {w w' : World} {r : Option Nat} (h : Below w.heap.size w w') : w.grownBy w' r := ⟨h.os, h.tape, h.output, h.size, fun k hk _ => h.block k hk⟩
theorem grown_trans {a b c : World} {r : Option Nat} (h : a.grownBy b r) (k : b.grownBy c r) : a.grownBy c r :=
  ⟨k.os.trans h.os, k.tape.trans h.tape, k.output.trans h.output, Nat.le_trans h.size k.size, fun i hi hr => (k.block i (Nat.lt_of_lt_of_le hi h.size) hr).trans (h.block i hi hr)⟩
theorem grown_none {a b : World} (h : a.grownBy b none) : Below a.heap.size a b := ⟨h.os, h.tape, h.output, h.size, fun k hk => h.block k hk (by simp)⟩
/-- What is new stays free: a block that there was not. -/
theorem grown_new {a b c : World} {g : Nat} (h : Below a.heap.size a b) (k : b.grownBy c (some g)) (hg : a.heap.size ≤ g) : Below a.heap.size a c :=
  ⟨k.os.trans h.os, k.tape.trans h.tape, k.output.trans h.output, Nat.le_trans h.size k.size, fun i hi => (k.block i (Nat.lt_of_lt_of_le hi h.size) (by simp; omega)).trans (h.block i hi)⟩
/-- Of the blocks that there were, q and g alone may have changed. -/
structure Fr (q g : Nat) (w w' : World) : Prop where
  os : w'.os = w.os
  tape : w'.tape = w.tape
  output : w'.output = w.output
  size : w.heap.size ≤ w'.heap.size
  block : ∀ k, k < w.heap.size → k ≠ q → k ≠ g → w'.heap[k]? = w.heap[k]?
theorem Fr.refl (q g : Nat) (w : World) : Fr q g w w := ⟨rfl, rfl, rfl, Nat.le_refl _, fun _ _ _ _ => rfl⟩
theorem Fr.of {q g : Nat} {a b : World} (h : Below a.heap.size a b) : Fr q g a b := ⟨h.os, h.tape, h.output, h.size, fun k hk _ _ => h.block k hk⟩
theorem Fr.ofg {q g : Nat} {a b : World} (h : a.grownBy b (some g)) : Fr q g a b := ⟨h.os, h.tape, h.output, h.size, fun k hk _ h2 => h.block k hk (by simpa using h2)⟩
theorem Fr.ofq {q g : Nat} {a b : World} (h : a.grownBy b (some q)) : Fr q g a b := ⟨h.os, h.tape, h.output, h.size, fun k hk h1 _ => h.block k hk (by simpa using h1)⟩
theorem Fr.trans {q g g' : Nat} {a b c : World} (h : Fr q g a b) (k : Fr q g' b c) (hg : g' = g ∨ a.heap.size ≤ g') : Fr q g a c :=
  ⟨k.os.trans h.os, k.tape.trans h.tape, k.output.trans h.output, Nat.le_trans h.size k.size, fun i hi h1 h2 => (k.block i (Nat.lt_of_lt_of_le hi h.size) h1 (by omega)).trans (h.block i hi h1 h2)⟩
theorem Fr.below {q g B : Nat} {a b : World} (h : Fr q g a b) (h1 : B ≤ q) (h2 : B ≤ g) (hB : B ≤ a.heap.size) : Below B a b :=
  ⟨h.os, h.tape, h.output, h.size, fun k hk => h.block k (by omega) (by omega) (by omega)⟩

/-! ### Rows of cells -/
def Blk (w : World) (g : Nat) (vs : List Value) (t : TypeId) : Prop := w.heap[g]? = some (.cells vs.toArray t (0, 0))
theorem Blk.cell {w : World} {g i : Nat} {vs : List Value} {t : TypeId} (h : Blk w g vs t) : w.cell? ⟨g, i, none⟩ = vs[i]? := by
  rw [cell_of_row w g i _ t (0, 0) h]; simp
theorem Blk.frozen {w : World} {g : Nat} {vs : List Value} {t : TypeId} (h : Blk w g vs t) (i : Nat) : w.frozen? ⟨g, i, none⟩ = false := frozen_of_row w g i _ t h
theorem Blk.lt {w : World} {g : Nat} {vs : List Value} {t : TypeId} (h : Blk w g vs t) : g < w.heap.size := (Array.getElem?_eq_some_iff.1 h).1
theorem Blk.of {w w' : World} {g : Nat} {vs : List Value} {t : TypeId} (h : Blk w g vs t) (e : w'.heap[g]? = w.heap[g]?) : Blk w' g vs t := e.trans h
theorem Blk.set {w : World} {g i : Nat} {vs : List Value} {t : TypeId} (h : Blk w g vs t) (v : Value) : Blk (w.setCell ⟨g, i, none⟩ v) g (vs.set i v) t := by
  have := heap_setCell_same w g i _ t v h
  unfold Blk
  rw [this]
  simp
theorem grown_set (w : World) (g i : Nat) (v : Value) : w.grownBy (w.setCell ⟨g, i, none⟩ v) (some g) :=
  ⟨rfl, rfl, rfl, by simp [World.setCell], fun k _ hr => Below.heap_setCell _ _ _ _ (fun e => hr (by simpa using e))⟩
def rc (r : Rn) : List Value := [.int .i64 r.p, .int .i64 r.n, .bool r.t]
def rcs (L : List Rn) : List Value := L.flatMap rc
theorem rcs_cons (r : Rn) (L : List Rn) : rcs (r :: L) = rc r ++ rcs L := List.flatMap_cons
theorem rcs_app (A B : List Rn) : rcs (A ++ B) = rcs A ++ rcs B := List.flatMap_append
theorem rcs_length : ∀ (L : List Rn), (rcs L).length = L.length * 3
  | [] => rfl
  | r :: L => by rw [rcs_cons, List.length_append, rcs_length L]; simp [rc]; omega
theorem rcs_one (L : List Rn) : ∀ v ∈ rcs L, v.oneCell' = true := by
  intro v hv
  obtain ⟨r, _, hr⟩ := List.mem_flatMap.1 hv
  simp only [rc, List.mem_cons, List.not_mem_nil, or_false] at hr
  rcases hr with rfl | rfl | rfl <;> rfl
theorem rcs_get : ∀ {L : List Rn} {i : Nat} (k : Nat), i < L.length → k < 3 → (rcs L)[i * 3 + k]? = (rc (el L i))[k]?
  | [], _, _, h, _ => by simp at h
  | r :: L, 0, k, _, hk => by
    rw [rcs_cons, List.getElem?_append_left (by simp [rc]; omega), el_zero]; simp
  | r :: L, i + 1, k, h, hk => by
    rw [rcs_cons, List.getElem?_append_right (by simp [rc]; omega), el_succ, ← rcs_get k (by simpa using h) hk]
    congr 1; simp [rc]; omega
theorem rcs_take : ∀ (L : List Rn) (i : Nat), i ≤ L.length → (rcs L).take (i * 3) = rcs (L.take i)
  | L, 0, _ => by simp [rcs]
  | [], i + 1, h => by simp at h
  | r :: L, i + 1, h => by
    have e : (i + 1) * 3 = (rc r).length + i * 3 := by simp [rc]; omega
    rw [rcs_cons, List.take_succ_cons, rcs_cons, ← rcs_take L i (by simpa using h), e, List.take_length_add_append]
theorem rcs_drop : ∀ (L : List Rn) (i : Nat), i ≤ L.length → (rcs L).drop (i * 3) = rcs (L.drop i)
  | L, 0, _ => by simp
  | [], i + 1, h => by simp at h
  | r :: L, i + 1, h => by
    have e : (i + 1) * 3 = (rc r).length + i * 3 := by simp [rc]; omega
    rw [rcs_cons, List.drop_succ_cons, ← rcs_drop L i (by simpa using h), e, List.drop_length_add_append]
theorem rcs_set : ∀ {L : List Rn} {i : Nat} (k : Nat) (r : Rn) (v : Value), i < L.length → k < 3 → rc r = (rc (el L i)).set k v → rcs (L.set i r) = (rcs L).set (i * 3 + k) v
  | [], _, _, _, _, h, _, _ => by simp at h
  | x :: L, 0, k, r, v, _, hk, hr => by
    rw [List.set_cons_zero, rcs_cons, rcs_cons, hr, el_zero, List.set_append_left _ _ (by simp [rc]; omega)]; simp
  | x :: L, i + 1, k, r, v, h, hk, hr => by
    rw [List.set_cons_succ, rcs_cons, rcs_cons, rcs_set k r v (by simpa using h) hk (by rw [el_succ] at hr; exact hr), List.set_append_right _ _ (by simp [rc]; omega)]
    congr 2; simp [rc]; omega
/-- A row of runs, with room for cap of them. -/
def Rw (w : World) (g cap : Nat) (L : List Rn) : Prop :=
  ∃ cur : List Value, Blk w g cur 107 ∧ cur.length = cap * 3 ∧ L.length ≤ cap ∧ cap ≤ maxLen ∧ cur.take (L.length * 3) = rcs L
theorem Rw.lt {w : World} {g cap : Nat} {L : List Rn} (h : Rw w g cap L) : g < w.heap.size := by obtain ⟨_, hb, _⟩ := h; exact hb.lt
theorem Rw.of {w w' : World} {g cap : Nat} {L : List Rn} (h : Rw w g cap L) (e : w'.heap[g]? = w.heap[g]?) : Rw w' g cap L := by
  obtain ⟨cur, hb, h2⟩ := h; exact ⟨cur, hb.of e, h2⟩
theorem Rw.below {w w' : World} {g cap : Nat} {L : List Rn} (h : Rw w g cap L) (hb : Below w.heap.size w w') : Rw w' g cap L := h.of (hb.block _ h.lt)
theorem Rw.fit {w : World} {g cap : Nat} {L : List Rn} (h : Rw w g cap L) : L.length ≤ cap ∧ cap ≤ 9223372036854775807 := by
  obtain ⟨_, _, _, h1, h2, _⟩ := h; simp only [maxLen] at h2; exact ⟨h1, by omega⟩
theorem Rw.get {w : World} {g cap : Nat} {L : List Rn} (h : Rw w g cap L) {i k : Nat} (hi : i < L.length) (hk : k < 3) : w.cell? ⟨g, i * 3 + k, none⟩ = (rc (el L i))[k]? := by
  obtain ⟨cur, hb, h1, h2, h3, h4⟩ := h
  rw [hb.cell, ← rcs_get k hi hk, ← h4, List.getElem?_take, if_pos (by omega)]
theorem Rw.cells {w : World} {g cap : Nat} {L : List Rn} (h : Rw w g cap L) {i : Nat} (hi : i < L.length) :
    w.cell? ⟨g, i * 3, none⟩ = some (.int .i64 (el L i).p) ∧ w.cell? ⟨g, i * 3 + 1, none⟩ = some (.int .i64 (el L i).n) ∧ w.cell? ⟨g, i * 3 + 2, none⟩ = some (.bool (el L i).t) :=
  ⟨h.get hi (k := 0) (by omega), h.get hi (k := 1) (by omega), h.get hi (k := 2) (by omega)⟩
theorem Rw.frozen {w : World} {g cap : Nat} {L : List Rn} (h : Rw w g cap L) (i : Nat) : w.frozen? ⟨g, i, none⟩ = false := by
  obtain ⟨_, hb, _⟩ := h; exact hb.frozen i
theorem Rw.set {w : World} {g cap : Nat} {L : List Rn} (h : Rw w g cap L) {i k : Nat} (hi : i < L.length) (hk : k < 3) (r : Rn) (v : Value) (hr : rc r = (rc (el L i)).set k v) : Rw (w.setCell ⟨g, i * 3 + k, none⟩ v) g cap (L.set i r) := by
  obtain ⟨cur, hb, h1, h2, h3, h4⟩ := h
  refine ⟨_, hb.set v, by simpa using h1, by simpa using h2, h3, ?_⟩
  rw [List.length_set, rcs_set k r v hi hk hr, ← h4, List.take_set]
theorem Rw.owns {w : World} {g cap : Nat} {L : List Rn} (h : Rw w g cap L) {i : Nat} (hi : i ≤ L.length) : w.ownsRow g 107 3 (.slice (some ⟨g, 0, none⟩) i cap) i (rcs (L.take i)) := by
  obtain ⟨cur, hb, h1, h2, h3, h4⟩ := h
  refine ⟨by rw [rcs_length]; simp; omega, .inr ⟨g, cap, cur.toArray, rfl, Nat.le_refl _, hb, by omega, h3, by simpa using h1, ?_⟩⟩
  rw [← rcs_take L i hi, ← h4, List.take_take, Nat.min_eq_left (by omega)]
theorem Rw.owned {w : World} {b g cap n : Nat} {L : List Rn} (h : w.ownsRow b 107 3 (.slice (some ⟨g, 0, none⟩) n cap) n (rcs L)) (hn : L.length = n) : Rw w g cap L ∧ b ≤ g := by
  rcases h.2 with ⟨h', _⟩ | ⟨g', cap', cur, h', hb, hh, h1, h2, h3, h4⟩
  · simp at h'
  · simp only [Value.slice.injEq, Option.some.injEq, Addr.mk.injEq, and_true, true_and] at h'
    obtain ⟨rfl, rfl⟩ := h'
    exact ⟨⟨cur.toList, by unfold Blk; simpa using hh, by simpa using h3, by omega, h2, by rw [hn]; exact h4⟩, hb⟩

/-! ### Rows that are copied, cleared, made longer -/
theorem run_info : (Tryz.prog.info? 107).map (fun i => (i.zero, i.size, i.bytes)) = some (some (.agg #[.int .i64 0, .int .i64 0, .bool false]), 3, 24) := by kernel_rfl
theorem int_info : (Tryz.prog.info? 3).map (fun i => (i.zero, i.size, i.bytes)) = some (some (.int .i64 0), 1, 8) := by kernel_rfl
theorem info_parts {t : TypeId} {z : Value} {s b : Nat} (h : (Tryz.prog.info? t).map (fun i => (i.zero, i.size, i.bytes)) = some (some z, s, b)) : ∃ i, Tryz.prog.info? t = some i ∧ i.zero = some z ∧ i.size = s ∧ i.bytes = b := by
  obtain ⟨i, hi, hp⟩ := Option.map_eq_some_iff.1 h
  simp only [Prod.mk.injEq] at hp
  exact ⟨i, hi, hp.1, hp.2.1, hp.2.2⟩
theorem run_copy3 (w : World) (ty : TypeId) (g o dLen dCap : Nat) (a : Addr) (sLen sCap m : Nat) (cur cs : List Value) (hg : Blk w g cur 107) (hm : Nat.min sLen dLen = m) (hn : cs.length = m * 3)
    (hsrc : ∀ j v, cs[j]? = some v → w.cell? (a.add j) = some v) (hfit : o + cs.length ≤ cur.length) (h1 : ∀ v ∈ cs, v.oneCell' = true) :
    ∃ w', (Builtin.copy_ #[110, 110] ty #[.slice (some ⟨g, o, none⟩) dLen dCap, .slice (some a) sLen sCap]).run Tryz.prog w = .ok (goInt m) w' ∧ Blk w' g (splice cur o cs) 107 ∧ w.grownBy w' (some g) := by
  obtain ⟨i, hi, _, hs, _⟩ := info_parts run_info
  have hl := run_loadCells_list (P := Tryz.prog) w a cs hsrc
  have hst := run_storeCells_at Tryz.prog g o 107 cs 0 cur.toArray w hg (by simpa using hfit) h1
  have hst' : (storeCells ⟨g, o, none⟩ cs).run Tryz.prog w = .ok () (w.setRow g (splice cur o cs).toArray) := by rw [hst]; simp [splice]
  rw [hn] at hl
  refine ⟨w.setRow g (splice cur o cs).toArray, by simp [Builtin.copy_, run_underlying Tryz.underlying110, Builtin.lenOf, Builtin.firstCells, sizeOf, typeInfo, hi, hs, hm, hl, hst'], ?_, ⟨rfl, rfl, rfl, by simp [World.setRow], fun k _ hk => setRow_other w g k _ (fun e => hk (by simp [e]))⟩⟩
  exact setRow_heap w g cur.toArray (splice cur o cs).toArray 107 (0, 0) hg
theorem zero3 (n : Nat) : (Builtin.zeroCells (Value.cells (.agg #[.int .i64 0, .int .i64 0, .bool false])) n).toList.length = n * 3 ∧ ∀ v ∈ (Builtin.zeroCells (Value.cells (.agg #[.int .i64 0, .int .i64 0, .bool false])) n).toList, v.oneCell' = true := by
  refine ⟨by rw [Array.length_toList, size_zeroCells]; rfl, fun v hv => ?_⟩
  have hv : v ∈ Builtin.zeroCells (Value.cells (.agg #[.int .i64 0, .int .i64 0, .bool false])) n := by simpa using hv
  unfold Builtin.zeroCells at hv
  obtain ⟨i, _, rfl⟩ := Array.mem_map.1 hv
  have h3 : i % 3 = 0 ∨ i % 3 = 1 ∨ i % 3 = 2 := by omega
  show Value.oneCell' (#[Value.int .i64 0, .int .i64 0, .bool false][i % 3]!) = true
  rcases h3 with h | h | h <;> rw [h] <;> rfl
theorem run_clear3 (w : World) (ty : TypeId) (g o n c : Nat) (cur : List Value) (hg : Blk w g cur 107) (hn : 0 < n) (hfit : o + n * 3 ≤ cur.length) :
    ∃ w' cur', (Builtin.clear_ #[110] ty #[.slice (some ⟨g, o, none⟩) n c]).run Tryz.prog w = .ok (.tuple #[]) w' ∧ Blk w' g cur' 107 ∧ cur'.length = cur.length ∧ cur'.take o = cur.take o ∧ w.grownBy w' (some g) := by
  obtain ⟨i, hi, hz, hs, _⟩ := info_parts run_info
  obtain ⟨hl, h1⟩ := zero3 n
  generalize hzs : (Builtin.zeroCells (Value.cells (.agg #[.int .i64 0, .int .i64 0, .bool false])) n).toList = zs at hl h1
  have hst := run_storeCells_at Tryz.prog g o 107 zs 0 cur.toArray w hg (by simp; omega) h1
  obtain ⟨m, rfl⟩ : ∃ m, n = m + 1 := ⟨n - 1, by omega⟩
  have hst' : (storeCells ⟨g, o, none⟩ zs).run Tryz.prog w = .ok () (w.setRow g (splice cur o zs).toArray) := by rw [hst]; simp [splice]
  refine ⟨w.setRow g (splice cur o zs).toArray, splice cur o zs, by simp [Builtin.clear_, run_underlying Tryz.underlying110, zeroValue, typeInfo, hi, hz, hzs, hst'], setRow_heap w g cur.toArray _ 107 (0, 0) hg, length_splice _ _ _ (by omega), ?_, ⟨rfl, rfl, rfl, by simp [World.setRow], fun k _ hk => setRow_other w g k _ (fun e => hk (by simp [e]))⟩⟩
  unfold splice
  rw [List.take_append_of_le_length (by simp; omega), List.take_take, Nat.min_self]
theorem run_zeros3 (w : World) (ty : TypeId) (g sLen sCap n cap : Nat) (L : List Rn) (hr : Rw w g cap L) (hs : sLen ≤ L.length) (hlen : sLen + n ≤ 1048576) (h0 : 0 < n) (hg : sCap < sLen + n) :
    ∃ g' cap' w' cur', (Builtin.append_ #[110, 3] ty #[.slice (some ⟨g, 0, none⟩) sLen sCap, .int .i64 (n : Int)]).run Tryz.prog w = .ok (.slice (some ⟨g', 0, none⟩) (sLen + n) cap') w' ∧
      Blk w' g' cur' 107 ∧ g' = w.heap.size ∧ cur'.length = cap' * 3 ∧ sLen + n ≤ cap' ∧ cap' ≤ maxLen ∧ cur'.take (sLen * 3) = rcs (L.take sLen) ∧ Below w.heap.size w w' := by
  obtain ⟨i, hi, hz, hsz, hb⟩ := info_parts run_info
  have hcells : ∀ j v, (rcs (L.take sLen))[j]? = some v → w.drew.cell? ((⟨g, 0, none⟩ : Addr).add j) = some v := fun j v hv => (hr.owns hs).cells (g := g) rfl j v hv
  have hfo := run_firstCells_some (P := Tryz.prog) w.drew i.size sLen ⟨g, 0, none⟩ sLen sCap (rcs (L.take sLen)) (by rw [rcs_length, hsz]; simp; omega) hcells
  have hn : ¬ (sLen + n ≤ sCap) := by omega
  have h63' : ¬ (9223372036854775807 < ((sLen : Int) + (n : Int))) := by omega
  have h48' : ¬ (281474976710656 < Builtin.nextslicecap (sLen + n) sCap * i.bytes) := by
    have := growslice_fits (old := sCap) (need := sLen + n) (bytes := i.bytes) (by omega) (by rw [hb]; omega)
    omega
  have hw : IntKind.i64.wrap (n : Int) = n := i64_in _ (by omega) (by omega)
  have hbig : ¬ (281474976710656 < (n : Int) * (i.bytes : Int)) := by rw [hb]; omega
  have hai : ∀ w, (asIntOf (.int .i64 (n : Int))).run Tryz.prog w = .ok (.i64, (n : Int)) w := fun _ => rfl
  have hnz : ¬ (n * i.size = 0) := by rw [hsz]; omega
  have hneg : ¬ ((n : Int) < 0) := by omega
  have hge := grownCap_ge w (sLen + n) sCap 107
  have hcm := grownCap_le_maxLen w (sLen + n) sCap 107 (by simp only [maxLen]; omega)
  obtain ⟨z1, _⟩ := zero3 n
  obtain ⟨z2, _⟩ := zero3 (grownCap w (sLen + n) sCap 107 - (sLen + n))
  have hrun : (Builtin.append_ #[110, 3] ty #[.slice (some ⟨g, 0, none⟩) sLen sCap, .int .i64 (n : Int)]).run Tryz.prog w = .ok (.slice (some ⟨w.heap.size, 0, none⟩) (sLen + n) (grownCap w (sLen + n) sCap 107))
      (w.drew.alloc (.cells (rcs (L.take sLen) ++ (Builtin.zeroCells (Value.cells (.agg #[.int .i64 0, .int .i64 0, .bool false])) n).toList ++ (Builtin.zeroCells (Value.cells (.agg #[.int .i64 0, .int .i64 0, .bool false])) (grownCap w (sLen + n) sCap 107 - (sLen + n))).toList).toArray 107)) := by
    simp [Builtin.append_, run_underlying Tryz.underlying110, run_underlying Tryz.underlying3, sizeOf, typeInfo, zeroValue, hi, hz, Builtin.lenOf, hn, h63', h48', Question.forced, hfo, newRow, grownCap, asInt, hai, hnz, hneg, hw, hbig]
    congr 2
    apply Array.ext'
    simp
  refine ⟨w.heap.size, _, _, _, hrun, heap_alloc_new _ _, rfl, ?_, hge, hcm, ?_, (Below.refl _ w).drew.alloc (Nat.le_refl _) _⟩
  · rw [List.length_append, List.length_append, z1, z2, rcs_length]; simp; omega
  · rw [List.append_assoc, List.take_append_of_le_length (by rw [rcs_length]; simp; omega), List.take_of_length_le (by rw [rcs_length]; simp; omega)]
/-! ### Runs of pages -/
/-- The struct at q names the row at g, which is these runs. -/
def Sp (w : World) (q g : Nat) (L : List Rn) : Prop := ∃ cap, Blk w q [.slice (some ⟨g, 0, none⟩) L.length cap] 125 ∧ Rw w g cap L ∧ q ≠ g
theorem Sp.lt {w : World} {q g : Nat} {L : List Rn} (h : Sp w q g L) : q < w.heap.size ∧ g < w.heap.size := by obtain ⟨_, h1, h2, _⟩ := h; exact ⟨h1.lt, h2.lt⟩
theorem Sp.ne {w : World} {q g : Nat} {L : List Rn} (h : Sp w q g L) : q ≠ g := by obtain ⟨_, _, _, h3⟩ := h; exact h3
theorem Sp.of {w w' : World} {q g : Nat} {L : List Rn} (h : Sp w q g L) (e1 : w'.heap[q]? = w.heap[q]?) (e2 : w'.heap[g]? = w.heap[g]?) : Sp w' q g L := by
  obtain ⟨c, h1, h2, h3⟩ := h; exact ⟨c, h1.of e1, h2.of e2, h3⟩
theorem Sp.below {w w' : World} {q g : Nat} {L : List Rn} (h : Sp w q g L) (hb : Below w.heap.size w w') : Sp w' q g L := h.of (hb.block _ h.lt.1) (hb.block _ h.lt.2)
/-- What is left behind a call that changes them. -/
def Became (q g : Nat) (L' : List Rn) (w w' : World) : Prop := ∃ g', Sp w' q g' L' ∧ Fr q g w w' ∧ (g' = g ∨ w.heap.size ≤ g')
theorem ret_i' {a b : Int} (h : a = b) : Ending.returned (.int .i64 a) = .returned (.int .i64 b) := by rw [h]
end Go.Proofs.YtjnknnakllbaaaaGreat.Sp
