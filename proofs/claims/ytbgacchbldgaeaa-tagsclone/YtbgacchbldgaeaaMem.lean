/-
  What tags are in memory: the map by places, and a walk over it. Laws that the claimed proofs use.
-/
import Derived.Test.YtbgacchbldgaeaaRows
import Derived.Test.YtbgacchbldgaeaaBase
import Derived.WalkKit
import Derived.WalkSpells
import Derived.WalkLawsBesides
import Derived.Deep.QuietTactic
import Derived.BigQuiet
import Derived.BigRegion
import Derived.RegionTactic
import Derived.Deep.RegionHeld3
import Derived.Deep.RegionLaw
import Derived.Deep.WholeRow
import Derived.Laws.Rows
import Derived.Laws.StructEq
import Derived.Lib.Hide
import Derived.ChangeKeysEq
import Derived.DeepKeys3
import Derived.Maps.OwnSet
import Derived.Maps.OwnOps
import Derived.Maps.RangeWalk
import Derived.Maps.Ext
import Derived.Laws.IdiomRangeMap
import Derived.Sort.MapsRangeIn
import Derived.RangeFuncSeq
namespace Go.Proofs.Ytbgacchbldgaeaa
open Go.RowKit Go.Maps

/-! ### Worlds -/
theorem up_trans {w W w2 : World} (h : Below w.heap.size w W) (h2 : Below W.heap.size W w2) : Below w.heap.size w w2 := h.trans (h2.mono h.size)
theorem up_alloc {w W : World} (h : Below w.heap.size w W) (o : Obj) : Below w.heap.size w (W.alloc o) := h.alloc h.size o
theorem up_drew {w W : World} (h : Below w.heap.size w W) : ∀ k, Below w.heap.size w (W.drewN k)
  | 0 => h
  | k + 1 => (up_drew h k).drew
theorem i64_in (n : Int) (h0 : -4611686018427387904 ≤ n) (h1 : n ≤ 4611686018427387904) : IntKind.i64.wrap n = n := by rw [IntKind.wrap_i64]; omega
theorem grown_refl (w : World) (r : Option Nat) : w.grownBy w r := ⟨rfl, rfl, rfl, Nat.le_refl _, fun _ _ _ => rfl⟩
theorem grown_below {w w' : World} {r : Option Nat} (h : Below w.heap.size w w') : w.grownBy w' r := ⟨h.os, h.tape, h.output, h.size, fun k hk _ => h.block k hk⟩
theorem grown_trans {a b c : World} {r : Option Nat} (h : a.grownBy b r) (k : b.grownBy c r) : a.grownBy c r :=
  ⟨k.os.trans h.os, k.tape.trans h.tape, k.output.trans h.output, Nat.le_trans h.size k.size, fun i hi hr => (k.block i (Nat.lt_of_lt_of_le hi h.size) hr).trans (h.block i hi hr)⟩
theorem grown_none {a b : World} (h : a.grownBy b none) : Below a.heap.size a b := ⟨h.os, h.tape, h.output, h.size, fun k hk => h.block k hk (by simp)⟩
/-- What is new stays free: a block that there was not. -/
theorem grown_new {a b c : World} {g : Nat} (h : Below a.heap.size a b) (k : b.grownBy c (some g)) (hg : a.heap.size ≤ g) : Below a.heap.size a c :=
  ⟨k.os.trans h.os, k.tape.trans h.tape, k.output.trans h.output, Nat.le_trans h.size k.size, fun i hi => (k.block i (Nat.lt_of_lt_of_le hi h.size) (by simp; omega)).trans (h.block i hi)⟩
/-- Of the blocks that there were, q and g alone may have changed. -/
structure Fr (q g : Nat) (w w' : World) : Prop where
  os : w'.os = w.os
  tape : w'.tape = w.tape
  output : w'.output = w.output
  size : w.heap.size ≤ w'.heap.size
  block : ∀ k, k < w.heap.size → k ≠ q → k ≠ g → w'.heap[k]? = w.heap[k]?
theorem Fr.of {q g : Nat} {a b : World} (h : Below a.heap.size a b) : Fr q g a b := ⟨h.os, h.tape, h.output, h.size, fun k hk _ _ => h.block k hk⟩
theorem Fr.ofg {q g : Nat} {a b : World} (h : a.grownBy b (some g)) : Fr q g a b := ⟨h.os, h.tape, h.output, h.size, fun k hk _ h2 => h.block k hk (by simpa using h2)⟩
theorem Fr.ofq {q g : Nat} {a b : World} (h : a.grownBy b (some q)) : Fr q g a b := ⟨h.os, h.tape, h.output, h.size, fun k hk h1 _ => h.block k hk (by simpa using h1)⟩
theorem Fr.trans {q g : Nat} {a b c : World} (h : Fr q g a b) (k : Fr q g b c) : Fr q g a c :=
  ⟨k.os.trans h.os, k.tape.trans h.tape, k.output.trans h.output, Nat.le_trans h.size k.size, fun i hi h1 h2 => (k.block i (Nat.lt_of_lt_of_le hi h.size) h1 h2).trans (h.block i hi h1 h2)⟩
theorem Fr.below {q g B : Nat} {a b : World} (h : Fr q g a b) (h1 : B ≤ q) (h2 : B ≤ g) (hB : B ≤ a.heap.size) : Below B a b :=
  ⟨h.os, h.tape, h.output, h.size, fun k hk => h.block k (by omega) (by omega) (by omega)⟩

/-! ### Rows of cells -/
def Blk (w : World) (g : Nat) (vs : List Value) (t : TypeId) : Prop := w.heap[g]? = some (.cells vs.toArray t (0, 0))
theorem Blk.cell {w : World} {g i : Nat} {vs : List Value} {t : TypeId} (h : Blk w g vs t) : w.cell? ⟨g, i, none⟩ = vs[i]? := by
  rw [cell_of_row w g i _ t (0, 0) h]; simp
theorem Blk.frozen {w : World} {g : Nat} {vs : List Value} {t : TypeId} (h : Blk w g vs t) (i : Nat) : w.frozen? ⟨g, i, none⟩ = false := frozen_of_row w g i _ t h
theorem Blk.lt {w : World} {g : Nat} {vs : List Value} {t : TypeId} (h : Blk w g vs t) : g < w.heap.size := (Array.getElem?_eq_some_iff.1 h).1
theorem Blk.of {w w' : World} {g : Nat} {vs : List Value} {t : TypeId} (h : Blk w g vs t) (e : w'.heap[g]? = w.heap[g]?) : Blk w' g vs t := e.trans h
theorem Blk.below {w w' : World} {g : Nat} {vs : List Value} {t : TypeId} (h : Blk w g vs t) (b : Below w.heap.size w w') : Blk w' g vs t := h.of (b.block g h.lt)
theorem Blk.new (w : World) (vs : List Value) (t : TypeId) : Blk (w.alloc (.cells vs.toArray t)) w.heap.size vs t := heap_alloc_new w _
theorem Blk.set {w : World} {g i : Nat} {vs : List Value} {t : TypeId} (h : Blk w g vs t) (v : Value) : Blk (w.setCell ⟨g, i, none⟩ v) g (vs.set i v) t := by
  have := heap_setCell_same w g i _ t v h
  unfold Blk
  rw [this]
  simp
theorem grown_set (w : World) (g i : Nat) (v : Value) : w.grownBy (w.setCell ⟨g, i, none⟩ v) (some g) :=
  ⟨rfl, rfl, rfl, by simp [World.setCell], fun k _ hr => Below.heap_setCell _ _ _ _ (fun e => hr (by simpa using e))⟩
theorem cell_same {W W' : World} {b i : Nat} (h : W'.heap[b]? = W.heap[b]?) : W'.cell? ⟨b, i, none⟩ = W.cell? ⟨b, i, none⟩ := by unfold World.cell?; simp only [h]

/-! ### Places and tags by value -/
def I64 (x : Int) : Prop := -9223372036854775808 ≤ x ∧ x ≤ 9223372036854775807
abbrev pv (p s : Int) : Value := .agg #[.int .i64 p, .int .i64 s]
abbrev DU := DataW Unit
def td (k z : Int) : DU := .agg [.lit (.int .i64 k), .lit (.int .i64 z)]
def tEl : List Value → Option (DU × List MemPlace)
  | [.int q k, .int q' z] => if q = .i64 ∧ q' = .i64 then some (td k z, []) else none
  | _ => none
def tE : Value → Option (DU × List MemPlace)
  | .agg xs => tEl xs.toList
  | _ => none
theorem tE_mk (k z : Int) : tE (pv k z) = some (td k z, []) := rfl
theorem tE_inv {v : Value} {y : DU × List MemPlace} (h : tE v = some y) : ∃ k z, v = pv k z ∧ y.1 = td k z := by
  cases v with
  | agg xs =>
    obtain ⟨l⟩ := xs
    change tEl l = some y at h
    unfold tEl at h
    split at h
    · split at h
      · rename_i hq
        obtain ⟨rfl, rfl⟩ := hq
        cases h; exact ⟨_, _, rfl, rfl⟩
      · cases h
    · cases h
  | _ => cases h
theorem td_inj {k z k' z' : Int} (h : td k z = td k' z') : k = k' ∧ z = z' := by
  unfold td at h
  simp only [DataW.agg.injEq, List.cons.injEq, DataW.lit.injEq, Lit.int.injEq, true_and, and_true] at h
  exact h
theorem wf_of {x : Int} (h : I64 x) : (Lit.int .i64 x).wf = true := by
  unfold Lit.wf I64 at *
  simp [IntKind.min, IntKind.max, IntKind.signed, IntKind.bits]
  omega
theorem keyLaw : WideMaps.KeyLaw Try.prog 24 := deep_law (m := 2) (by omega) (by kernel_rfl) (by kernel_rfl) (by kernel_rfl)
theorem law24 : Keyed Try.prog 24 := Keyed.of_law keyLaw
theorem zero26 (w : World) : (zeroValue 26).run Try.prog w = .ok (pv 0 0) w := by kernel_rfl
theorem lits24 {d : Nat} {x y : Value} : Try.prog.keyLits (d + 2) 24 [x, y] = (Try.prog.keyLits (d + 1) 3 [x]).bind fun a => (Try.prog.keyLits (d + 1) 3 [y]).bind fun b => some (a ++ b) := by
  have hc : Try.prog.cellsOf 24 = 2 := by kernel_rfl
  have hc1 : Try.prog.cellsOf 3 = 1 := by kernel_rfl
  conv => lhs; unfold Program.keyLits
  rw [Try.underlying24]
  simp only [hc]
  rw [if_pos ⟨rfl, by kernel_rfl⟩]
  simp [hc1]
  cases Try.prog.keyLits (d + 1) 3 [x] <;> simp
  cases Try.prog.keyLits (d + 1) 3 [y] <;> simp
theorem lits3 {d : Nat} {x : Int} (h : I64 x) : Try.prog.keyLits (d + 1) 3 [.int .i64 x] = some [.int .i64 x] := by
  unfold Program.keyLits
  rw [Try.underlying3]
  simp [wf_of h]
theorem types_pos : ∃ N, Try.prog.types.size = N + 1 := Nat.exists_eq_add_one_of_ne_zero (fun e => absurd e (of_decide_eq_true (by kernel_rfl)))
theorem key_of {p s : Int} (hp : I64 p) (hs : I64 s) : ∃ kl, keyOf Try.prog 24 (pv p s) = some kl := by
  have hk : Try.prog.keyType 24 = true := by kernel_rfl
  have hc : Try.prog.cellsOf 24 = 2 := by kernel_rfl
  obtain ⟨N, hN⟩ := types_pos
  unfold keyOf
  rw [Try.underlying24]
  simp only [hk, Bool.true_and, hN]
  have hf : (pv p s).formed Try.prog 24 = true := by simp [Value.formed, Try.underlying24, hc]
  rw [if_pos hf, show (pv p s).cells.toList = [.int .i64 p, .int .i64 s] from rfl, lits24, lits3 hp, lits3 hs]
  exact ⟨_, rfl⟩
set_option maxRecDepth 10000 in
theorem key_inv {v : Value} {kl : Lit} (h : keyOf Try.prog 24 v = some kl) : ∃ p s, v = pv p s ∧ I64 p ∧ I64 s := by
  have hc : Try.prog.cellsOf 24 = 2 := by kernel_rfl
  obtain ⟨N, hN⟩ := types_pos
  obtain ⟨xs, L, rfl, hL, _⟩ := keyOf_top (by kernel_rfl) h
  rw [hN] at hL
  have hl : xs.toList.length = 2 := by
    have h' := hL
    unfold Program.keyLits at h'
    rw [Try.underlying24] at h'
    simp only [hc] at h'
    split at h'
    · rename_i hh; exact hh.1
    · cases h'
  obtain ⟨l⟩ := xs
  match l, hl with
  | [x, y], _ =>
    rw [lits24] at hL
    have one : ∀ {v : Value} {a : List Lit}, Try.prog.keyLits (N + 1) 3 [v] = some a → ∃ n, v = .int .i64 n ∧ I64 n := fun {v a} hv => by
      unfold Program.keyLits at hv
      rw [Try.underlying3] at hv
      cases v <;> simp only [] at hv
      all_goals first
        | (cases hv)
        | skip
      rename_i q n
      split at hv
      · rename_i hq
        obtain ⟨rfl, hw⟩ := hq
        refine ⟨n, rfl, ?_⟩
        unfold Lit.wf at hw
        simp [IntKind.min, IntKind.max, IntKind.signed, IntKind.bits] at hw
        exact ⟨by omega, by omega⟩
      · cases hv
    obtain ⟨a, ha, hL⟩ := Option.bind_eq_some_iff.1 hL
    obtain ⟨b, hb, _⟩ := Option.bind_eq_some_iff.1 hL
    obtain ⟨p, rfl, hp⟩ := one ha
    obtain ⟨s, rfl, hs⟩ := one hb
    exact ⟨p, s, rfl, hp, hs⟩
theorem key_same {p s p' s' : Int} {kl kl' : Lit} (h : keyOf Try.prog 24 (pv p s) = some kl) (h' : keyOf Try.prog 24 (pv p' s') = some kl') : kl'.sameKey kl = (p' == p && s' == s) := by
  rw [Bool.eq_iff_iff, WideAt.sameKey_iff (law24.key h), Bool.and_eq_true, beq_iff_eq, beq_iff_eq]
  constructor
  · rintro rfl
    have := law24.inj h' h
    simp only [pv, Value.agg.injEq, Array.mk.injEq, List.cons.injEq, Value.int.injEq, true_and, and_true] at this
    exact this
  · rintro ⟨rfl, rfl⟩
    rw [h] at h'; exact (Option.some.inj h').symm
theorem Tr.ok_p {r : Tr} (h : r.ok = true) : I64 r.p := by have := (Tr.ok_bd h).1; unfold I64; omega
theorem Tr.ok_s {r : Tr} (h : r.ok = true) : I64 r.s := by have := (Tr.ok_bd h).1; unfold I64; omega

/-! ### The map -/
/-- This map's entries are these rows. -/
structure Dt (D : DU) (L : List Tr) : Prop where
  size : Maps.size D = L.length
  has : ∀ p s kl, keyOf Try.prog 24 (pv p s) = some kl → Maps.has D kl = hasB L p s
  val : ∀ r ∈ L, ∀ kl, keyOf Try.prog 24 (pv r.p r.s) = some kl → ∀ z, D.atKey kl z = td r.k r.z
/-- Block b is the map of these rows. -/
def Mp (w : World) (b : Nat) (L : List Tr) : Prop := ∃ D, w.ownsMap Try.prog 24 tE b L.length D ∧ Dt D L
theorem owns_fit {w : World} {b n : Nat} {D : DU} (h : w.ownsMap Try.prog 24 tE b n D) : w.ownsMap Try.prog 24 tE b (Maps.size D) D := by
  obtain ⟨es, clock, hb, F, hs, rfl⟩ := h
  exact ⟨es, clock, hb, F, by simp [Maps.size, length_sorted], rfl⟩
theorem owns_of {w w' : World} {b n : Nat} {D : DU} (h : w.ownsMap Try.prog 24 tE b n D) (e : w'.heap[b]? = w.heap[b]?) : w'.ownsMap Try.prog 24 tE b n D := by
  obtain ⟨es, clock, hb, r⟩ := h
  exact ⟨es, clock, e.trans hb, r⟩
theorem Mp.of {w w' : World} {b : Nat} {L : List Tr} (h : Mp w b L) (e : w'.heap[b]? = w.heap[b]?) : Mp w' b L := by
  obtain ⟨D, ho, r⟩ := h; exact ⟨D, owns_of ho e, r⟩
theorem Mp.lt {w : World} {b : Nat} {L : List Tr} (h : Mp w b L) : b < w.heap.size := by obtain ⟨_, ho, _⟩ := h; exact ho.lt
theorem Mp.below {w w' : World} {b : Nat} {L : List Tr} (h : Mp w b L) (hb : Below w.heap.size w w') : Mp w' b L := h.of (hb.block b h.lt)
theorem Mp.obj {w : World} {b : Nat} {L : List Tr} (h : Mp w b L) : ∃ es clock, w.heap[b]? = some (.map es clock) := by
  obtain ⟨_, ⟨es, clock, hb, _⟩, _⟩ := h; exact ⟨es, clock, hb⟩
theorem Mp.made (w : World) : Mp (w.alloc (.map #[] 0)) w.heap.size [] :=
  ⟨.map [], World.ownsMap_made w _ _ _, rfl, fun _ _ _ _ => rfl, fun _ h => by cases h⟩
theorem Dt.put {D : DU} {L : List Tr} (h : Dt D L) (hm : Tidy D) {r : Tr} {kl : Lit} (hk : keyOf Try.prog 24 (pv r.p r.s) = some kl) (hn : hasB L r.p r.s = false) : Dt (D.put kl (td r.k r.z)) (ins r L) := by
  have hkl := law24.key hk
  refine ⟨?_, fun p s kl' hk' => ?_, fun x hx kl' hk' z => ?_⟩
  · rw [size_put hm, h.has _ _ _ hk, hn, len_ins, h.size]; simp
  · rw [has_ins]
    cases e : kl'.sameKey kl with
    | true =>
      rw [key_same hk hk'] at e
      have := (WideAt.sameKey_iff hkl).1 (by rw [key_same hk hk']; exact e : kl'.sameKey kl = true)
      rw [this, has_put_same hm.isMap hkl, e]; rfl
    | false =>
      have hne : kl' ≠ kl := fun e' => by rw [e', WideAt.sameKey_self hkl] at e; cases e
      rw [key_same hk hk'] at e
      rw [has_put_other hne, h.has _ _ _ hk', e]; rfl
  · rcases mem_ins.1 hx with rfl | hx
    · rw [hk] at hk'; cases hk'
      rw [atKey_put_same hm.isMap hkl]
    · have hne : kl' ≠ kl := fun e => by
        have e' : kl'.sameKey kl = true := by rw [e]; exact WideAt.sameKey_self hkl
        rw [key_same hk hk', Bool.and_eq_true, beq_iff_eq, beq_iff_eq] at e'
        have := hasB_iff.2 ⟨x, hx, e'⟩
        rw [hn] at this; cases this
      rw [atKey_put_other hne, h.val x hx kl' hk']
theorem Dt.del {D : DU} {L : List Tr} (h : Dt D L) (hm : Tidy D) (ho : L.Pairwise ltR) {p s : Int} {kl : Lit} (hk : keyOf Try.prog 24 (pv p s) = some kl) (hn : hasB L p s = true) : Dt (D.del kl) (del L p s) := by
  have hkl := law24.key hk
  refine ⟨?_, fun p' s' kl' hk' => ?_, fun x hx kl' hk' z => ?_⟩
  · have := size_del (k := kl) hm
    rw [h.has _ _ _ hk, hn, h.size] at this
    have := len_del ho hn
    simp at *
    omega
  · rw [has_del, ← h.has _ _ _ hk', ← key_same hk hk']
    cases e : kl'.sameKey kl with
    | true =>
      have := (WideAt.sameKey_iff hkl).1 e
      rw [this, has_del_same]; simp
    | false =>
      have hne : kl' ≠ kl := fun e' => by rw [e', WideAt.sameKey_self hkl] at e; cases e
      rw [has_del_other hne]; simp
  · obtain ⟨hx, hnx⟩ := mem_del.1 hx
    have hne : kl' ≠ kl := fun e => by
      have e' : kl'.sameKey kl = true := by rw [e]; exact WideAt.sameKey_self hkl
      rw [key_same hk hk', Bool.and_eq_true, beq_iff_eq, beq_iff_eq] at e'
      exact hnx e'
    rw [atKey_del_other hne, h.val x hx kl' hk']
theorem Mp.look {w : World} {b : Nat} {L : List Tr} (h : Mp w b L) {p s : Int} (hp : I64 p) (hs : I64 s) :
    (Instr.lookup 64 (.map (some b)) (pv p s) true).run Try.prog w = .ok (.tuple #[pv (rowOf L p s).k (rowOf L p s).z, .bool (hasB L p s)]) w := by
  obtain ⟨D, ho, hd⟩ := h
  obtain ⟨kl, hk⟩ := key_of hp hs
  obtain ⟨v, ps, hrun, hv⟩ := ho.look_ok law24 Try.underlying64 (zero26 w) (tE_mk 0 0) hk
  rw [hrun, hd.has _ _ _ hk]
  obtain ⟨k, z, rfl, e⟩ := tE_inv hv
  cases hh : hasB L p s with
  | false =>
    rw [← hd.has _ _ _ hk] at hh
    rw [atKey_of_not_has hh] at e
    obtain ⟨rfl, rfl⟩ := td_inj e
    rw [hd.has _ _ _ hk] at hh
    rw [rowOf_no hh]
  | true =>
    obtain ⟨h1, h2, h3⟩ := rowOf_yes hh
    have := hd.val _ h1 kl (by rw [h2, h3]; exact hk) (td 0 0)
    rw [this] at e
    obtain ⟨rfl, rfl⟩ := td_inj e
    rfl
theorem Mp.look1 {w : World} {b : Nat} {L : List Tr} (h : Mp w b L) {p s : Int} (hp : I64 p) (hs : I64 s) :
    (Instr.lookup 64 (.map (some b)) (pv p s) false).run Try.prog w = .ok (pv (rowOf L p s).k (rowOf L p s).z) w := by
  obtain ⟨D, ho, hd⟩ := h
  obtain ⟨kl, hk⟩ := key_of hp hs
  obtain ⟨v, ps, hrun, hv⟩ := ho.lookup law24 Try.underlying64 (zero26 w) (tE_mk 0 0) hk
  rw [hrun]
  obtain ⟨k, z, rfl, e⟩ := tE_inv hv
  cases hh : hasB L p s with
  | false =>
    rw [← hd.has _ _ _ hk] at hh
    rw [atKey_of_not_has hh] at e
    obtain ⟨rfl, rfl⟩ := td_inj e
    rw [hd.has _ _ _ hk] at hh
    rw [rowOf_no hh]
  | true =>
    obtain ⟨h1, h2, h3⟩ := rowOf_yes hh
    have := hd.val _ h1 kl (by rw [h2, h3]; exact hk) (td 0 0)
    rw [this] at e
    obtain ⟨rfl, rfl⟩ := td_inj e
    rfl
theorem Mp.len {w : World} {b : Nat} {L : List Tr} (h : Mp w b L) (ty : TypeId) : (Builtin.len_ #[64] ty #[.map (some b)]).run Try.prog w = .ok (.int .i64 L.length) w := by
  obtain ⟨D, ho, hd⟩ := h
  rw [ho.len Try.underlying64 ty, hd.size]
theorem Mp.put {w : World} {b : Nat} {L : List Tr} (h : Mp w b L) (hw : Wf L) {r : Tr} (hr : r.ok = true) (hn : hasB L r.p r.s = false) :
    ∃ w', (Instr.mapUpdate 64 (.map (some b)) (pv r.p r.s) (pv r.k r.z)).run Try.prog w = .ok () w' ∧ Mp w' b (ins r L) ∧ w.grownBy w' (some b) := by
  obtain ⟨D, ho, hd⟩ := h
  obtain ⟨kl, hk⟩ := key_of (Tr.ok_p hr) (Tr.ok_s hr)
  have hlen := hw.len
  obtain ⟨w', hrun, ho', hg⟩ := ho.update law24 Try.underlying64 (by simp only [maxLen]; omega) hk (tE_mk r.k r.z)
  refine ⟨w', hrun, ⟨_, ?_, hd.put (ho.tidy law24) hk hn⟩, hg⟩
  rw [len_ins]; exact ho'
theorem Mp.drop {w : World} {b : Nat} {L : List Tr} (h : Mp w b L) (hw : Wf L) {p s : Int} (hp : I64 p) (hs : I64 s) (hn : hasB L p s = true) :
    ∃ w', (∀ ty, (Builtin.delete_ #[64, 24] ty #[.map (some b), pv p s]).run Try.prog w = .ok (.tuple #[]) w') ∧ Mp w' b (del L p s) ∧ w.grownBy w' (some b) := by
  obtain ⟨D, ho, hd⟩ := h
  obtain ⟨kl, hk⟩ := key_of hp hs
  obtain ⟨w', hrun, ho', ht⟩ := ho.drop law24 Try.underlying64 hk 0
  have hd' := hd.del (ho.tidy law24) hw.ord hk hn
  refine ⟨w', fun _ => hrun, ⟨_, ?_, hd'⟩, ht.grown⟩
  have := owns_fit ho'
  rwa [hd'.size] at this

/-! ### A walk over the map -/
/-- The iterator at r walks over the map at b, and these rows are still to come. -/
def Rg (w : World) (b r : Nat) (L T : List Tr) : Prop :=
  ∃ D left cnt, w.ranges Try.prog 24 tE b r L.length D left cnt ∧ Dt D L ∧ ∀ p s kl, keyOf Try.prog 24 (pv p s) = some kl → left kl = hasB T p s
theorem Rg.owns {w : World} {b r : Nat} {L T : List Tr} (h : Rg w b r L T) : Mp w b L := by
  obtain ⟨D, left, cnt, hr, hd, _⟩ := h; exact ⟨D, hr.owns, hd⟩
theorem Rg.lt {w : World} {b r : Nat} {L T : List Tr} (h : Rg w b r L T) : r < w.heap.size := by obtain ⟨D, left, cnt, hr, _⟩ := h; exact hr.lt
theorem Rg.ne {w : World} {b r : Nat} {L T : List Tr} (h : Rg w b r L T) : r ≠ b := by obtain ⟨D, left, cnt, hr, _⟩ := h; exact hr.ne
theorem Rg.of {w w' : World} {b r : Nat} {L T : List Tr} (h : Rg w b r L T) (e1 : w'.heap[b]? = w.heap[b]?) (e2 : w'.heap[r]? = w.heap[r]?) : Rg w' b r L T ∧ w'.rangeLeft b r = w.rangeLeft b r := by
  have hl : w'.rangeLeft b r = w.rangeLeft b r := by unfold World.rangeLeft; rw [e1, e2]
  obtain ⟨D, left, cnt, hr, r'⟩ := h
  refine ⟨⟨D, left, cnt, ?_, r'⟩, hl⟩
  obtain ⟨es, clock, since, seen, c0, hb, F, hs, hD, hi, rest⟩ := hr
  exact ⟨es, clock, since, seen, c0, e1.trans hb, F, hs, hD, e2.trans hi, rest⟩
theorem Rg.below {w w' : World} {b r : Nat} {L T : List Tr} (h : Rg w b r L T) (hb : Below w.heap.size w w') : Rg w' b r L T ∧ w'.rangeLeft b r = w.rangeLeft b r :=
  h.of (hb.block b h.owns.lt) (hb.block r h.lt)
theorem Rg.walks {w w' : World} {b r : Nat} {L T : List Tr} (h : Rg w b r L T) (hk : KeepsWalks w w') : Rg w' b r L T ∧ w'.rangeLeft b r = w.rangeLeft b r := by
  obtain ⟨D, left, cnt, hr, r'⟩ := h
  obtain ⟨es, clock, since, seen, c0, hb, F, hs, hD, hi, rest⟩ := hr
  exact Rg.of ⟨D, left, cnt, ⟨es, clock, since, seen, c0, hb, F, hs, hD, hi, rest⟩, r'⟩ ((hk.same b _ hb rfl).trans hb.symm) ((hk.same r _ hi rfl).trans hi.symm)
theorem perm_del : ∀ {T : List Tr}, T.Pairwise ltR → ∀ {x : Tr}, x ∈ T → T.Perm (x :: del T x.p x.s)
  | [], _, _, hx => by cases hx
  | r :: T, h, x, hx => by
    obtain ⟨h1, h2⟩ := List.pairwise_cons.1 h
    rcases List.mem_cons.1 hx with rfl | hx
    · have hn : hasB T x.p x.s = false := by
        cases hc : hasB T x.p x.s with
        | false => rfl
        | true =>
          obtain ⟨y, hy, e1, e2⟩ := hasB_iff.1 hc
          have := h1 y hy
          unfold ltR at this; omega
      have e : del (x :: T) x.p x.s = T := by
        have := del_not hn
        unfold del at this ⊢
        rw [List.filter_cons_of_neg (by simp [atB]), this]
      rw [e]
    · have hne : atB x.p x.s r = false := by
        cases hc : atB x.p x.s r with
        | false => rfl
        | true => have := h1 x hx; have := atB_iff.1 hc; unfold ltR at *; omega
      have e : del (r :: T) x.p x.s = r :: del T x.p x.s := by unfold del; rw [List.filter_cons_of_pos (by simp [hne])]
      rw [e]
      exact ((perm_del h2 hx).cons r).trans (List.Perm.swap ..)
section
variable {P : Program}
/-- One step of the walk: nothing is left, or one of those rows comes. -/
theorem wp_next (w : World) {ops : Array Oper} {rest : List Oper} {o : Oper} {a : Act} {Q : Exit → Act → World → Prop} (hg : o.guard = none) (it : Operand) (hop : o.op = Op.next it false) {b r : Nat} {L T : List Tr}
    (hit : a.eval it = .pointer (some ⟨r, 0, none⟩)) (h : Rg w b r L T) (hL : Wf L) (hT : ∀ x ∈ T, x ∈ L)
    (hDone : Hid (T = []) → wpList Try.prog ops Q rest (a.put o.dst (.tuple #[.bool false])) w)
    (hMore : ∀ (x : Tr) (w' : World), Hid (x ∈ T) → Hid (Rg w' b r L (del T x.p x.s)) → Hid (w'.rangeLeft b r < w.rangeLeft b r) → Hid (w.grownBy w' (some r)) → Hid (w'.heap.size = w.heap.size) →
      (Instr.entry (.pointer (some ⟨r, 0, none⟩))).run Try.prog w' = .ok (.tuple #[pv x.p x.s, pv x.k x.z]) w' → wpList Try.prog ops Q rest (a.put o.dst (.tuple #[.bool true, pv x.p x.s, pv x.k x.z])) w') :
    wpList Try.prog ops Q (o :: rest) a w := by
  obtain ⟨D, left, cnt, hr, hd, hl⟩ := h
  refine wpList_next_ranges w hg it hop 24 law24 tE id id (fun key _ _ => ⟨key, rfl⟩) (fun v _ _ => ⟨v, rfl⟩) b r _ _ _ _ hit hr (fun _ h0 => hDone ?_) ?_
  · show T = []
    cases T with
    | nil => rfl
    | cons x T =>
      have hx := hL.ok x (hT x (List.mem_cons_self ..))
      obtain ⟨kl, hk⟩ := key_of (Tr.ok_p hx) (Tr.ok_s hx)
      have := hl _ _ _ hk
      rw [h0, hasB_iff.2 ⟨x, List.mem_cons_self .., rfl, rfl⟩] at this
      cases this
  · intro key c kl y w' cnt' hk hlk hv hat hr' hlt hgr hsz hen
    obtain ⟨p, s, rfl, hp, hs⟩ := key_inv hk
    have hh : hasB T p s = true := by rw [← hl _ _ _ hk]; exact hlk
    obtain ⟨x, hx, rfl, rfl⟩ := hasB_iff.1 hh
    obtain ⟨k, z, rfl, e⟩ := tE_inv hv
    have e2 := hd.val x (hT x hx) kl hk (td 0 0)
    rw [hat, e] at e2
    obtain ⟨rfl, rfl⟩ := td_inj e2
    refine hMore x w' hx ⟨D, _, cnt', hr', hd, fun p' s' kl' hk' => ?_⟩ ?_ hgr hsz hen
    · rw [has_del, hl _ _ _ hk', key_same hk hk']
    · show _ < _; rw [hr'.left_eq, hr.left_eq]; exact hlt
/-- The same within a round of a loop over an iterator. -/
theorem in_next {F : Fence} {n : Nat} (w : World) {ops : Array Oper} {rest : List Oper} {o : Oper} {a : Act} {Q : Exit → Act → World → Prop} (hg : o.guard = none) (it : Operand) (hop : o.op = Op.next it false) {b r : Nat} {L T : List Tr}
    (hit : a.eval it = .pointer (some ⟨r, 0, none⟩)) (h : Rg w b r L T) (hL : Wf L) (hT : ∀ x ∈ T, x ∈ L)
    (hDone : Hid (T = []) → wpListIn F n Try.prog ops Q rest (a.put o.dst (.tuple #[.bool false])) w)
    (hMore : ∀ (x : Tr) (w' : World), Hid (x ∈ T) → Hid (Rg w' b r L (del T x.p x.s)) → Hid (w'.rangeLeft b r < w.rangeLeft b r) → Hid (w.grownBy w' (some r)) → Hid (w'.heap.size = w.heap.size) →
      (Instr.entry (.pointer (some ⟨r, 0, none⟩))).run Try.prog w' = .ok (.tuple #[pv x.p x.s, pv x.k x.z]) w' → wpListIn F n Try.prog ops Q rest (a.put o.dst (.tuple #[.bool true, pv x.p x.s, pv x.k x.z])) w') :
    wpListIn F n Try.prog ops Q (o :: rest) a w := by
  obtain ⟨D, left, cnt, hr, hd, hl⟩ := h
  refine wpListIn_next_ranges w hg it hop 24 law24 tE id id (fun key _ _ => ⟨key, rfl⟩) (fun v _ _ => ⟨v, rfl⟩) b r _ _ _ _ hit hr (fun _ h0 => hDone ?_) ?_
  · show T = []
    cases T with
    | nil => rfl
    | cons x T =>
      have hx := hL.ok x (hT x (List.mem_cons_self ..))
      obtain ⟨kl, hk⟩ := key_of (Tr.ok_p hx) (Tr.ok_s hx)
      have := hl _ _ _ hk
      rw [h0, hasB_iff.2 ⟨x, List.mem_cons_self .., rfl, rfl⟩] at this
      cases this
  · intro key c kl y w' cnt' hk hlk hv hat hr' hlt hgr hsz hen
    obtain ⟨p, s, rfl, hp, hs⟩ := key_inv hk
    have hh : hasB T p s = true := by rw [← hl _ _ _ hk]; exact hlk
    obtain ⟨x, hx, rfl, rfl⟩ := hasB_iff.1 hh
    obtain ⟨k, z, rfl, e⟩ := tE_inv hv
    have e2 := hd.val x (hT x hx) kl hk (td 0 0)
    rw [hat, e] at e2
    obtain ⟨rfl, rfl⟩ := td_inj e2
    refine hMore x w' hx ⟨D, _, cnt', hr', hd, fun p' s' kl' hk' => ?_⟩ ?_ hgr hsz hen
    · rw [has_del, hl _ _ _ hk', key_same hk hk']
    · show _ < _; rw [hr'.left_eq, hr.left_eq]; exact hlt
/-- The walk begins. -/
theorem wp_range (w : World) {ops : Array Oper} {rest : List Oper} {o : Oper} {a : Act} {Q : Exit → Act → World → Prop} (hg : o.guard = none) (m : Operand) (hop : o.op = Op.range 64 m) {b : Nat} {L : List Tr}
    (hm : a.eval m = .map (some b)) (h : Mp w b L)
    (hK : ∀ w', Hid (Rg w' b w.heap.size L L) → Hid (Below w.heap.size w w') → Hid (w'.heap.size = w.heap.size + 1) → wpList Try.prog ops Q rest (a.put o.dst (.pointer (some ⟨w.heap.size, 0, none⟩))) w') :
    wpList Try.prog ops Q (o :: rest) a w := by
  obtain ⟨D, ho, hd⟩ := h
  exact wpList_range_own w hg m 64 hop 24 26 law24 Try.underlying64 tE b _ D hm ho (fun w' hr hg' hs => hK w' ⟨D, _, _, hr, hd, hd.has⟩ (grown_none hg') hs)
theorem in_range {F : Fence} {n : Nat} (w : World) {ops : Array Oper} {rest : List Oper} {o : Oper} {a : Act} {Q : Exit → Act → World → Prop} (hg : o.guard = none) (m : Operand) (hop : o.op = Op.range 64 m) {b : Nat} {L : List Tr}
    (hm : a.eval m = .map (some b)) (h : Mp w b L)
    (hK : ∀ w', Hid (Rg w' b w.heap.size L L) → Hid (Below w.heap.size w w') → Hid (w'.heap.size = w.heap.size + 1) → wpListIn F n Try.prog ops Q rest (a.put o.dst (.pointer (some ⟨w.heap.size, 0, none⟩))) w') :
    wpListIn F n Try.prog ops Q (o :: rest) a w := by
  obtain ⟨D, ho, hd⟩ := h
  exact wpListIn_range_own w hg m 64 hop 24 26 law24 Try.underlying64 tE b _ D hm ho (fun w' hr hg' hs => hK w' ⟨D, _, _, hr, hd, hd.has⟩ (grown_none hg') hs)
end
end Go.Proofs.Ytbgacchbldgaeaa
