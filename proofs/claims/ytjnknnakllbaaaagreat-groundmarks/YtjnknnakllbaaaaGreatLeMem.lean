/-
  What a book of amounts is in memory, and the map that counts its states: laws that the claimed proofs use.
-/
import Derived.Test.YtjnknnakllbaaaaGreatRows
import Derived.Test.YtjnknnakllbaaaaGreatLeBase
import Derived.WalkKit
import Derived.WalkSpells
import Derived.WalkLawsBesides
import Derived.Deep.QuietTactic
import Derived.BigQuiet
import Derived.BigRegion
import Derived.RegionTactic
import Derived.Deep.RegionHeld3
import Derived.Deep.RegionLaw
import Derived.Deep.WholeRow
import Derived.Laws.Rows
import Derived.Laws.StructEq
import Derived.Lib.Hide
import Derived.ChangeKeysEq
import Derived.WideKeyArr
import Derived.WideKeyEntry
import Derived.Maps.OwnSet
import Derived.Maps.OwnOps
namespace Go.Proofs.YtjnknnakllbaaaaGreat.Le
set_option maxRecDepth 100000
open Go.RowKit Go.Maps

/-! ### Worlds -/
theorem up_trans {w W w2 : World} (h : Below w.heap.size w W) (h2 : Below W.heap.size W w2) : Below w.heap.size w w2 := h.trans (h2.mono h.size)
theorem up_alloc {w W : World} (h : Below w.heap.size w W) (o : Obj) : Below w.heap.size w (W.alloc o) := h.alloc h.size o
theorem up_drew {w W : World} (h : Below w.heap.size w W) : ∀ k, Below w.heap.size w (W.drewN k)
  | 0 => h
  | k + 1 => (up_drew h k).drew
theorem i64_in (n : Int) (h0 : -1 ≤ n) (h1 : n ≤ 4611686018427387904) : IntKind.i64.wrap n = n := by rw [IntKind.wrap_i64]; omega
theorem drewN_heap (w : World) : ∀ j, (w.drewN j).heap = w.heap
  | 0 => rfl
  | j + 1 => drewN_heap w j
def Drawn (w wr : World) : Prop := ∃ j, wr = w.drewN j
theorem Drawn.refl (w : World) : Drawn w w := ⟨0, rfl⟩
theorem Drawn.on {w wr : World} (h : Drawn w wr) (n : Nat) : Drawn w (wr.drewN n) := by
  obtain ⟨j, rfl⟩ := h; exact ⟨j + n, by rw [World.drewN_drewN]⟩
theorem Drawn.trans {w wr w2 : World} (h : Drawn w wr) (h2 : Drawn wr w2) : Drawn w w2 := by obtain ⟨j, rfl⟩ := h2; exact h.on j
theorem Drawn.below {w wr : World} (h : Drawn w wr) : Below w.heap.size w wr := by
  obtain ⟨j, rfl⟩ := h; exact up_drew (Below.refl _ w) j
theorem Drawn.heap {w wr : World} (h : Drawn w wr) : wr.heap = w.heap := by
  obtain ⟨j, rfl⟩ := h; exact drewN_heap w j
theorem Drawn.cell {w wr : World} (h : Drawn w wr) {p : Addr} {v : Value} (hc : w.cell? p = some v) : wr.cell? p = some v :=
  (h.below.cell (World.block_lt_of_cell? w p hc)).trans hc
theorem grown_refl (w : World) (r : Option Nat) : w.grownBy w r := ⟨rfl, rfl, rfl, Nat.le_refl _, fun _ _ _ => rfl⟩
theorem grown_below {w w' : World} {r : Option Nat} (h : Below w.heap.size w w') : w.grownBy w' r := ⟨h.os, h.tape, h.output, h.size, fun k hk _ => h.block k hk⟩
theorem grown_trans {a b c : World} {r : Option Nat} (h : a.grownBy b r) (k : b.grownBy c r) : a.grownBy c r :=
  ⟨k.os.trans h.os, k.tape.trans h.tape, k.output.trans h.output, Nat.le_trans h.size k.size, fun i hi hr => (k.block i (Nat.lt_of_lt_of_le hi h.size) hr).trans (h.block i hi hr)⟩
theorem grown_none {a b : World} (h : a.grownBy b none) : Below a.heap.size a b := ⟨h.os, h.tape, h.output, h.size, fun k hk => h.block k hk (by simp)⟩
/-- What is new stays free: a block that there was not. -/
theorem grown_new {a b c : World} {g : Nat} (h : Below a.heap.size a b) (k : b.grownBy c (some g)) (hg : a.heap.size ≤ g) : Below a.heap.size a c :=
  ⟨k.os.trans h.os, k.tape.trans h.tape, k.output.trans h.output, Nat.le_trans h.size k.size, fun i hi => (k.block i (Nat.lt_of_lt_of_le hi h.size) (by simp; omega)).trans (h.block i hi)⟩
/-- Of the blocks that there were, q and g alone may have changed. -/
structure Fr (q g : Nat) (w w' : World) : Prop where
  os : w'.os = w.os
  tape : w'.tape = w.tape
  output : w'.output = w.output
  size : w.heap.size ≤ w'.heap.size
  block : ∀ k, k < w.heap.size → k ≠ q → k ≠ g → w'.heap[k]? = w.heap[k]?
theorem Fr.refl (q g : Nat) (w : World) : Fr q g w w := ⟨rfl, rfl, rfl, Nat.le_refl _, fun _ _ _ _ => rfl⟩
theorem Fr.of {q g : Nat} {a b : World} (h : Below a.heap.size a b) : Fr q g a b := ⟨h.os, h.tape, h.output, h.size, fun k hk _ _ => h.block k hk⟩
theorem Fr.ofg {q g : Nat} {a b : World} (h : a.grownBy b (some g)) : Fr q g a b := ⟨h.os, h.tape, h.output, h.size, fun k hk _ h2 => h.block k hk (by simpa using h2)⟩
theorem Fr.ofq {q g : Nat} {a b : World} (h : a.grownBy b (some q)) : Fr q g a b := ⟨h.os, h.tape, h.output, h.size, fun k hk h1 _ => h.block k hk (by simpa using h1)⟩
theorem Fr.trans {q g g' : Nat} {a b c : World} (h : Fr q g a b) (k : Fr q g' b c) (hg : g' = g ∨ a.heap.size ≤ g') : Fr q g a c :=
  ⟨k.os.trans h.os, k.tape.trans h.tape, k.output.trans h.output, Nat.le_trans h.size k.size, fun i hi h1 h2 => (k.block i (Nat.lt_of_lt_of_le hi h.size) h1 (by omega)).trans (h.block i hi h1 h2)⟩
theorem Fr.below {q g B : Nat} {a b : World} (h : Fr q g a b) (h1 : B ≤ q) (h2 : B ≤ g) (hB : B ≤ a.heap.size) : Below B a b :=
  ⟨h.os, h.tape, h.output, h.size, fun k hk => h.block k (by omega) (by omega) (by omega)⟩

/-! ### Rows of cells -/
def Blk (w : World) (g : Nat) (vs : List Value) (t : TypeId) : Prop := w.heap[g]? = some (.cells vs.toArray t (0, 0))
theorem Blk.cell {w : World} {g i : Nat} {vs : List Value} {t : TypeId} (h : Blk w g vs t) : w.cell? ⟨g, i, none⟩ = vs[i]? := by
  rw [cell_of_row w g i _ t (0, 0) h]; simp
theorem Blk.frozen {w : World} {g : Nat} {vs : List Value} {t : TypeId} (h : Blk w g vs t) (i : Nat) : w.frozen? ⟨g, i, none⟩ = false := frozen_of_row w g i _ t h
theorem Blk.lt {w : World} {g : Nat} {vs : List Value} {t : TypeId} (h : Blk w g vs t) : g < w.heap.size := (Array.getElem?_eq_some_iff.1 h).1
theorem Blk.of {w w' : World} {g : Nat} {vs : List Value} {t : TypeId} (h : Blk w g vs t) (e : w'.heap[g]? = w.heap[g]?) : Blk w' g vs t := e.trans h
theorem Blk.set {w : World} {g i : Nat} {vs : List Value} {t : TypeId} (h : Blk w g vs t) (v : Value) : Blk (w.setCell ⟨g, i, none⟩ v) g (vs.set i v) t := by
  have := heap_setCell_same w g i _ t v h
  unfold Blk
  rw [this]
  simp
theorem grown_set (w : World) (g i : Nat) (v : Value) : w.grownBy (w.setCell ⟨g, i, none⟩ v) (some g) :=
  ⟨rfl, rfl, rfl, by simp [World.setCell], fun k _ hr => Below.heap_setCell _ _ _ _ (fun e => hr (by simpa using e))⟩

/-! ### Rows by value -/
def rowA (f : Row) : Array Value := #[.int .i64 (f 0), .int .i64 (f 1), .int .i64 (f 2), .int .i64 (f 3), .int .i64 (f 4), .int .i64 (f 5), .int .i64 (f 6), .int .i64 (f 7)]
def rowV (f : Row) : Value := .agg (rowA f)
theorem rowV_iff {f g : Row} : rowV f = rowV g ↔ eqB f g = true := by
  unfold rowV rowA eqB
  simp only [Bool.and_eq_true, beq_iff_eq, Value.agg.injEq, Array.mk.injEq, List.cons.injEq, Value.int.injEq, true_and, and_true]
theorem row_at (f : Row) {k : Nat} (h : k < 8) : (rowA f)[k]? = some (.int .i64 (f k)) := by
  rcases (by omega : k = 0 ∨ k = 1 ∨ k = 2 ∨ k = 3 ∨ k = 4 ∨ k = 5 ∨ k = 6 ∨ k = 7) with rfl | rfl | rfl | rfl | rfl | rfl | rfl | rfl <;> rfl
theorem int_info : ∃ i, Tryz.prog.info? 3 = some i := by
  have : (Tryz.prog.info? 3).isSome = true := by kernel_rfl
  exact Option.isSome_iff_exists.1 this
theorem row_eq (w : World) (f g : Row) : (Op.equalIn 10000 24 (rowV f) (rowV g)).run Tryz.prog w = .ok (eqB f g) w := by
  obtain ⟨i, hi⟩ := int_info
  have hp : Tryz.prog.plainKey 3 = true := by kernel_rfl
  have hc : Tryz.prog.cellsOf 3 = 1 := by kernel_rfl
  unfold rowV
  rw [show (10000 : Nat) = 9999 + 1 from rfl, run_equalIn_array w 9999 _ _ Tryz.underlying24 hi, hc, show List.range 8 = [0, 1, 2, 3, 4, 5, 6, 7] from rfl]
  have pa : ∀ (f : Row) (j : Nat), j < 8 → (part 3 (rowA f) j).run Tryz.prog w = .ok (.int .i64 (f j)) w := fun f j hj => run_part_plain w hp (row_at f hj)
  have p0 := fun f => pa f 0 (by omega)
  have p1 := fun f => pa f 1 (by omega)
  have p2 := fun f => pa f 2 (by omega)
  have p3 := fun f => pa f 3 (by omega)
  have p4 := fun f => pa f 4 (by omega)
  have p5 := fun f => pa f 5 (by omega)
  have p6 := fun f => pa f 6 (by omega)
  have p7 := fun f => pa f 7 (by omega)
  have hq := fun (a b : Int) => run_equalIn_int w 9998 3 .i64 .i64 a b Tryz.underlying3
  unfold eqB
  simp only [Op.eqItems, Nat.mul_one, Sem.run_bind, p0, hq, Result.andThen_ok]
  cases h0 : (f 0 == g 0)
  · rfl
  simp only [Bool.not_true, Bool.false_eq_true, if_false, Sem.run_bind, p1, hq, Result.andThen_ok, Bool.true_and]
  cases h1 : (f 1 == g 1)
  · rfl
  simp only [Bool.not_true, Bool.false_eq_true, if_false, Sem.run_bind, p2, hq, Result.andThen_ok, Bool.true_and]
  cases h2 : (f 2 == g 2)
  · rfl
  simp only [Bool.not_true, Bool.false_eq_true, if_false, Sem.run_bind, p3, hq, Result.andThen_ok, Bool.true_and]
  cases h3 : (f 3 == g 3)
  · rfl
  simp only [Bool.not_true, Bool.false_eq_true, if_false, Sem.run_bind, p4, hq, Result.andThen_ok, Bool.true_and]
  cases h4 : (f 4 == g 4)
  · rfl
  simp only [Bool.not_true, Bool.false_eq_true, if_false, Sem.run_bind, p5, hq, Result.andThen_ok, Bool.true_and]
  cases h5 : (f 5 == g 5)
  · rfl
  simp only [Bool.not_true, Bool.false_eq_true, if_false, Sem.run_bind, p6, hq, Result.andThen_ok, Bool.true_and]
  cases h6 : (f 6 == g 6)
  · rfl
  simp only [Bool.not_true, Bool.false_eq_true, if_false, Sem.run_bind, p7, hq, Result.andThen_ok, Bool.true_and]
  cases h7 : (f 7 == g 7) <;> rfl
theorem row_eql (w : World) (f g : Row) : (binOp .eql 24 (rowV f) (rowV g)).run Tryz.prog w = .ok (.bool (eqB f g)) w := by
  have := row_eq w f g
  unfold rowV at this ⊢
  rw [run_eql_struct, this]; rfl
theorem row_neq (w : World) (f g : Row) : (binOp .neq 24 (rowV f) (rowV g)).run Tryz.prog w = .ok (.bool (!eqB f g)) w := by
  have := row_eq w f g
  unfold rowV at this ⊢
  rw [run_neq_struct, this]; rfl
theorem row_guard (o : BinOp) (w : World) (x y : Operand) (f g : Row) : (eqGuard o 24 x y (rowV f) (rowV g)).run Tryz.prog w = .ok () w := by
  have h : Tryz.prog.eqGuardType Tryz.prog.depth 24 = false := by kernel_rfl
  unfold rowV
  cases o <;> simp [eqGuard, h]

/-! ### The map -/
abbrev DU := DataW Unit
def vz (x : Int) : DU := .lit (.int .i64 x)
theorem keyLaw : WideMaps.KeyLaw Tryz.prog 24 := WideMaps.ArrKey.law (e := 3) (n := 8) ⟨Tryz.underlying24, by kernel_rfl, by kernel_rfl, by kernel_rfl⟩
theorem law24 : Keyed Tryz.prog 24 := Keyed.of_law keyLaw
theorem zero3' (w : World) : (zeroValue 3).run Tryz.prog w = .ok (.int .i64 0) w := by kernel_rfl
def okR (f : Row) : Prop := ∀ i, i < 8 → (Lit.int .i64 (f i)).wf = true
theorem wf_of {x : Int} (h0 : -9223372036854775808 ≤ x) (h1 : x ≤ 9223372036854775807) : (Lit.int .i64 x).wf = true := by
  unfold Lit.wf
  simp [IntKind.min, IntKind.max, IntKind.signed, IntKind.bits]
  omega
theorem Gd.ok {C : Int} {f : Row} (h : Gd C f) (hC : C ≤ 1099511627776) : okR f := fun i hi => by
  have := h.at hi
  exact wf_of (by omega) (by omega)
theorem key_of {f : Row} (h : okR f) : ∃ kl, keyOf Tryz.prog 24 (rowV f) = some kl := by
  have hk : Tryz.prog.keyType 24 = true := by kernel_rfl
  have hc : Tryz.prog.cellsOf 24 = 8 := by kernel_rfl
  have hc1 : Tryz.prog.cellsOf 3 = 1 := by kernel_rfl
  obtain ⟨N, hs⟩ : ∃ N, Tryz.prog.types.size = N + 1 := Nat.exists_eq_add_one_of_ne_zero (fun e => absurd e (of_decide_eq_true (by kernel_rfl)))
  unfold keyOf
  rw [Tryz.underlying24]
  simp only [hk, Bool.true_and, hs]
  have hf : (rowV f).formed Tryz.prog 24 = true := by
    simp [rowV, rowA, Value.formed, Tryz.underlying24, hc]
  rw [if_pos hf]
  have hl : ∀ (d : Nat) (i : Nat), i < 8 → Tryz.prog.keyLits (d + 1) 3 [.int .i64 (f i)] = some [.int .i64 (f i)] := fun d i hi => by
    unfold Program.keyLits
    rw [Tryz.underlying3]
    simp [h i hi]
  have hh : Tryz.prog.keyLits (N + 1 + 1) 24 [.int .i64 (f 0), .int .i64 (f 1), .int .i64 (f 2), .int .i64 (f 3), .int .i64 (f 4), .int .i64 (f 5), .int .i64 (f 6), .int .i64 (f 7)]
      = some [.int .i64 (f 0), .int .i64 (f 1), .int .i64 (f 2), .int .i64 (f 3), .int .i64 (f 4), .int .i64 (f 5), .int .i64 (f 6), .int .i64 (f 7)] := by
    unfold Program.keyLits
    rw [Tryz.underlying24]
    simp only [hc, hc1]
    rw [if_pos (by rfl), show List.range 8 = [0, 1, 2, 3, 4, 5, 6, 7] from rfl]
    simp [hl N]
  exact ⟨_, by rw [show (rowV f).cells.toList = [.int .i64 (f 0), .int .i64 (f 1), .int .i64 (f 2), .int .i64 (f 3), .int .i64 (f 4), .int .i64 (f 5), .int .i64 (f 6), .int .i64 (f 7)] from rfl, hh]; rfl⟩
theorem World.ownsMap.of_block {w w' : World} {b n : Nat} {D : DU} (h : w.ownsMap Tryz.prog 24 (plainElem (H := Unit) Tryz.prog 3) b n D) (e : w'.heap[b]? = w.heap[b]?) : w'.ownsMap Tryz.prog 24 (plainElem (H := Unit) Tryz.prog 3) b n D := by
  obtain ⟨es, clock, hb, r⟩ := h
  exact ⟨es, clock, e.trans hb, r⟩
/-- Block b is a map that tells of each row how many of these states it was. -/
def Mp (w : World) (b : Nat) (S : List Row) : Prop :=
  ∃ n D, w.ownsMap Tryz.prog 24 (plainElem (H := Unit) Tryz.prog 3) b n D ∧ n ≤ S.length ∧ ∀ f kl, keyOf Tryz.prog 24 (rowV f) = some kl → D.atKey kl (vz 0) = vz (cn S f)
theorem Mp.of {w w' : World} {b : Nat} {S : List Row} (h : Mp w b S) (e : w'.heap[b]? = w.heap[b]?) : Mp w' b S := by
  obtain ⟨n, D, ho, r⟩ := h
  refine ⟨n, D, ?_, r⟩
  obtain ⟨es, clock, hb, r⟩ := ho
  exact ⟨es, clock, e.trans hb, r⟩
theorem Mp.lt {w : World} {b : Nat} {S : List Row} (h : Mp w b S) : b < w.heap.size := by obtain ⟨_, _, ho, _⟩ := h; exact ho.lt
theorem Mp.made (w : World) : Mp (w.alloc (.map #[] 0)) w.heap.size [] :=
  ⟨0, .map [], World.ownsMap_made _ _ _ _, Nat.le_refl _, fun _ _ _ => rfl⟩
theorem Mp.look {w : World} {b : Nat} {S : List Row} (h : Mp w b S) {f : Row} (hf : okR f) : (Instr.lookup 130 (.map (some b)) (rowV f) false).run Tryz.prog w = .ok (.int .i64 (cn S f)) w := by
  obtain ⟨n, D, ho, _, hv⟩ := h
  obtain ⟨kl, hk⟩ := key_of hf
  obtain ⟨c, hrun, hat, _⟩ := ho.lookup_int law24 Tryz.underlying130 Tryz.underlying3 (zero3' w) hk
  have := hv f kl hk
  unfold vz at this
  rw [hat] at this
  injection this with this
  injection this with _ this
  rw [hrun, this]
theorem set_same {w : World} {b : Nat} {o : Obj} (hb : w.heap[b]? = some o) : ChangeMaps.setBlock w b o = w := by
  obtain ⟨hlt, he⟩ := Array.getElem?_eq_some_iff.1 hb
  show { w with heap := w.heap.set! b o } = w
  congr 1
  apply Array.ext_getElem?
  intro i
  rw [Array.set!_eq_setIfInBounds, Array.getElem?_setIfInBounds]
  by_cases e : b = i
  · subst e; rw [if_pos rfl, if_pos hlt, hb]
  · rw [if_neg e]
theorem entry_look {w : World} {b clock : Nat} {es : Array MapEntry} {key v : Value} {kl : Lit} (hb : w.heap[b]? = some (.map es clock)) (F : WideElems.Fit Tryz.prog 24 (plainElem (H := Unit) Tryz.prog 3) es clock) (hk : keyOf Tryz.prog 24 key = some kl)
    (hl : (Instr.lookup 130 (.map (some b)) key false).run Tryz.prog w = .ok v w) :
    ∃ st w1, (Instr.mapEntry 130 (.map (some b)) key).run Tryz.prog w = .ok (.tuple #[v, goInt st]) w1 ∧ (Instr.lookup 130 (.map (some b)) key false).run Tryz.prog w1 = .ok v w1 := by
  rcases keyLaw.find w hk es.toList F.keys with ⟨h1, h2⟩ | ⟨j, e0, h1, h2, h3⟩
  · have hv : v = .int .i64 0 := by
      simp [Instr.lookup, run_underlying Tryz.underlying130, MapKept.run_getObj_map hb, keyLaw.check w _ hk, h1, Result.andThen] at hl
      exact hl.symm
    subst hv
    refine ⟨clock, ChangeMaps.setBlock w b (.map (es.push ⟨key, .int .i64 0, clock⟩) (clock + 1)), ?_, ?_⟩
    · simp [Instr.mapEntry, run_underlying Tryz.underlying130, MapKept.run_getObj_map hb, keyLaw.check w false hk, h1, MapKept.run_setObj_map _ hb, Result.andThen, ChangeMaps.setBlock]
    · have hb1 := ChangeMaps.heap_setBlock_same hb (.map (es.push ⟨key, .int .i64 0, clock⟩) (clock + 1))
      generalize ChangeMaps.setBlock w b (.map (es.push ⟨key, .int .i64 0, clock⟩) (clock + 1)) = w1 at hb1
      have hks : ∀ e ∈ (es.push ⟨key, .int .i64 0, clock⟩).toList, ∃ l, keyOf Tryz.prog 24 e.key = some l := fun e he => by
        rw [Array.toList_push] at he
        rcases List.mem_append.1 he with he | he
        · exact F.keys e he
        · rw [List.mem_singleton.1 he]; exact ⟨kl, hk⟩
      rcases keyLaw.find w1 hk _ hks with ⟨_, g2⟩ | ⟨j, e0, g1, g2, g3⟩
      · exact absurd rfl (g2 ⟨key, .int .i64 0, clock⟩ (by simp))
      · have hm := List.mem_of_getElem? g2
        rw [Array.toList_push] at hm
        rcases List.mem_append.1 hm with hm | hm
        · exact absurd g3 (h2 e0 hm)
        · have he0 : e0.val = .int .i64 0 := by rw [List.mem_singleton.1 hm]
          simp only [Array.toList_push] at g1
          simp [Instr.lookup, run_underlying Tryz.underlying130, MapKept.run_getObj_map hb1, keyLaw.check w1 _ hk, g1, he0, Result.andThen]
  · have hv : v = e0.val := by
      simp [Instr.lookup, run_underlying Tryz.underlying130, MapKept.run_getObj_map hb, keyLaw.check w _ hk, h1, Result.andThen] at hl
      exact hl.symm
    subst hv
    have hj : es[j]? = some e0 := by simpa using h2
    have hsame : es.modify j (fun e => { e with key := key }) = es := by
      apply Array.ext_getElem?
      intro i
      rw [Array.getElem?_modify]
      by_cases e : j = i
      · subst e; rw [if_pos rfl, hj, ← h3]; rfl
      · rw [if_neg e]
    have hs := set_same hb
    refine ⟨e0.born, w, ?_, hl⟩
    unfold ChangeMaps.setBlock at hs
    simp [Instr.mapEntry, run_underlying Tryz.underlying130, MapKept.run_getObj_map hb, keyLaw.check w false hk, h1, hj, h3, keyLaw.stays w hk, hsame, MapKept.run_setObj_map _ hb, Result.andThen, hs]
/-- One state more is counted: the entry, then what is stored in it. -/
theorem Mp.bump {w : World} {b : Nat} {S : List Row} (h : Mp w b S) {f : Row} (hf : okR f) (hS : S.length ≤ 1000) :
    ∃ (st : Int) (w1 w2 : World), (Instr.lookup 130 (.map (some b)) (rowV f) false).run Tryz.prog w = .ok (.int .i64 (cn S f)) w ∧
      (Instr.mapEntry 130 (.map (some b)) (rowV f)).run Tryz.prog w = .ok (.tuple #[.int .i64 (cn S f), .int .i64 st]) w1 ∧
      (Instr.lookup 130 (.map (some b)) (rowV f) false).run Tryz.prog w1 = .ok (.int .i64 (cn S f)) w1 ∧
      (Instr.entryStore 130 (.map (some b)) (.int .i64 st) (.int .i64 (cn S f + 1))).run Tryz.prog w1 = .ok () w2 ∧
      Mp w2 b (f :: S) ∧ w.grownBy w1 (some b) ∧ w.grownBy w2 (some b) := by
  have hl := h.look hf
  obtain ⟨n, D, ho, hn, hv⟩ := h
  obtain ⟨kl, hk⟩ := key_of hf
  have hwf : (Lit.int .i64 ((cn S f : Int) + 1)).wf = true := wf_of (by omega) (by have := cn_le S f; omega)
  obtain ⟨w', hup, ho', _⟩ := ho.update law24 Tryz.underlying130 (by simp only [maxLen]; omega) hk (plainElem_int (H := Unit) Tryz.underlying3 hwf)
  have him := ho.isMap
  obtain ⟨es, clock, hb, F, hs, hD⟩ := ho
  obtain ⟨v0, st, es1, clock1, hen, _, hst⟩ := WideElems.entry_then_store keyLaw Tryz.underlying130 zero3' hb F hk
  obtain ⟨st', w1', hen', hl1⟩ := entry_look hb F hk hl
  rw [hen] at hen'
  simp only [Result.ok.injEq, Value.tuple.injEq, Array.mk.injEq, List.cons.injEq, and_true] at hen'
  obtain ⟨⟨rfl, _⟩, rfl⟩ := hen'
  have hb1 := ChangeMaps.heap_setBlock_same hb (.map es1 clock1)
  obtain ⟨es', clock', hsr, hup'⟩ := hst (ChangeMaps.setBlock w b (.map es1 clock1)) (.int .i64 ((cn S f : Int) + 1)) hb1
  rw [hup] at hup'
  simp only [Result.ok.injEq, true_and] at hup'
  subst hup'
  have g1 : ∀ (W : World) (es : Array MapEntry) (c : Nat) (o' : Obj), W.heap[b]? = some (.map es c) → W.grownBy (ChangeMaps.setBlock W b o') (some b) := fun W _ _ o' hW =>
    ⟨rfl, rfl, rfl, by simp [ChangeMaps.setBlock], fun i _ hi => ChangeMaps.heap_setBlock_other hW _ (fun e => hi (by rw [e]))⟩
  refine ⟨st, _, _, hl, hen, hl1, hsr, ?_, g1 _ _ _ _ hb, grown_trans (g1 _ _ _ _ hb) (g1 _ _ _ _ hb1)⟩
  refine ⟨n + 1, D.put kl (vz ((cn S f : Int) + 1)), ?_, by simp; omega, fun g kg hkg => ?_⟩
  · exact Le.World.ownsMap.of_block ho' (by rw [ChangeMaps.heap_setBlock_same hb1, ChangeMaps.heap_setBlock_same hb])
  · rw [cn_cons]
    by_cases he : eqB f g = true
    · have : rowV f = rowV g := rowV_iff.2 he
      rw [← this, hk] at hkg
      cases hkg
      rw [atKey_put_same him (law24.key hk), if_pos he, cn_eq S he]
      simp [vz]
    · have hne : kg ≠ kl := fun e => he (rowV_iff.1 (law24.inj hk (e ▸ hkg)))
      rw [atKey_put_other hne, hv g kg hkg, if_neg he]
      simp

/-! ### The book -/
def lc (C : Int) (f : Row) (p : Int) (b : Nat) : List Value :=
  [.int .i64 C, .int .i64 (f 0), .int .i64 (f 1), .int .i64 (f 2), .int .i64 (f 3), .int .i64 (f 4), .int .i64 (f 5), .int .i64 (f 6), .int .i64 (f 7), .int .i64 p, .map (some b)]
theorem lc_at (C : Int) (f : Row) (p : Int) (b : Nat) {k : Nat} (h : k < 8) : (lc C f p b)[1 + k]? = some (.int .i64 (f k)) := by
  rcases (by omega : k = 0 ∨ k = 1 ∨ k = 2 ∨ k = 3 ∨ k = 4 ∨ k = 5 ∨ k = 6 ∨ k = 7) with rfl | rfl | rfl | rfl | rfl | rfl | rfl | rfl <;> rfl
theorem lc_set (C : Int) (f : Row) (p : Int) (b : Nat) {k : Nat} (v : Int) (h : k < 8) : (lc C f p b).set (1 + k) (.int .i64 v) = lc C (up f k v) p b := by
  rcases (by omega : k = 0 ∨ k = 1 ∨ k = 2 ∨ k = 3 ∨ k = 4 ∨ k = 5 ∨ k = 6 ∨ k = 7) with rfl | rfl | rfl | rfl | rfl | rfl | rfl | rfl <;> rfl
theorem lc_peak (C : Int) (f : Row) (p : Int) (b : Nat) (v : Int) : (lc C f p b).set 9 (.int .i64 v) = lc C f v b := rfl
/-- At q lies a book of this capacity with these states so far, the last one foremost; its map is block b. -/
structure Led (w : World) (q b : Nat) (C : Int) (S : List Row) : Prop where
  blk : Blk w q (lc C (hd S) (pk S) b) 132
  mp : Mp w b S
theorem Mp.not {w : World} {b : Nat} {S : List Row} {vs : List Value} {t : TypeId} (h : Mp w b S) (hb : Blk w b vs t) : False := by
  obtain ⟨_, _, ⟨es, c, h, _⟩, _⟩ := h
  unfold Blk at hb
  rw [h] at hb
  cases hb
theorem Mp.ne {w : World} {b q : Nat} {S : List Row} {vs : List Value} {t : TypeId} (h : Mp w b S) (hb : Blk w q vs t) : q ≠ b := fun e => by subst e; exact h.not hb
theorem Led.ne {w : World} {q b : Nat} {C : Int} {S : List Row} (h : Led w q b C S) : q ≠ b := h.mp.ne h.blk
theorem Led.of {w w' : World} {q b : Nat} {C : Int} {S : List Row} (h : Led w q b C S) (e1 : w'.heap[q]? = w.heap[q]?) (e2 : w'.heap[b]? = w.heap[b]?) : Led w' q b C S := ⟨h.blk.of e1, h.mp.of e2⟩
theorem Led.below {w w' : World} {q b : Nat} {C : Int} {S : List Row} (h : Led w q b C S) (hb : Below w.heap.size w w') : Led w' q b C S := h.of (hb.block _ h.blk.lt) (hb.block _ h.mp.lt)
/-- Another book is left alone. -/
theorem Led.far {w w' : World} {q b q' b' : Nat} {C : Int} {S : List Row} (h : Led w q b C S) (hf : Fr q' b' w w') (h1 : q ≠ q') (h2 : q ≠ b') (h3 : b ≠ q') (h4 : b ≠ b') : Led w' q b C S := h.of (hf.block _ h.blk.lt h1 h2) (hf.block _ h.mp.lt h3 h4)
end Go.Proofs.YtjnknnakllbaaaaGreat.Le
