/-
  What a slab is in memory, and what it is asked: laws and contracts that the claimed proofs use.
-/
import Derived.Test.YtiemgeflkmbfoaaDoorOsLists
namespace Go.Proofs.YtiemgeflkmbfoaaDoor.Os
set_option maxRecDepth 100000
open Go.RowKit
open Ta (sz szs classB classB_iff classB_not sizeOf' slotsOf)
open Bi (sets bt on first setL setB tst hasB u Blk Drawn grown_refl grown_trans grown_below up_alloc up_drew up_trans i64_in ret_i ret_b)

theorem ret_ib {a b : Int} {c d : Bool} (h : a = b) (h2 : c = d) : Ending.returned (.tuple #[.int .i64 a, .bool c]) = .returned (.tuple #[.int .i64 b, .bool d]) := by rw [h, h2]
theorem ret_ii {a b c d : Int} (h : a = b) (h2 : c = d) : Ending.returned (.tuple #[.int .i64 a, .int .i64 c]) = .returned (.tuple #[.int .i64 b, .int .i64 d]) := by rw [h, h2]
/-! ### The tables -/
structure Tb (w : World) : Prop where
  bits : Bi.Tab w
  cls : Ta.Tab w
theorem Tb.lt {w : World} (h : Tb w) : 1 < w.heap.size := h.bits.lt
theorem Tb.below {w w' : World} (h : Tb w) (hb : Below w.heap.size w w') : Tb w' := ⟨h.bits.below hb, h.cls.below hb⟩
theorem Tb.drop {B : Nat} {w w' : World} (h : Tb w) (hb : Below B w w') (hB : 1 < B) : Tb w' := ⟨h.bits.drop hb hB, by
  obtain ⟨t, fr, e⟩ := h.cls
  exact ⟨t, fr, (hb.block 0 (by omega)).trans e⟩⟩
/-! ### Kinds of blocks -/
/-- Of what kind a block is; 0: it is no row of cells. -/
def kind (w : World) (k : Nat) : Nat := match w.heap[k]? with
  | some (.cells _ t _) => t
  | _ => 0
theorem kind_of {w : World} {k t : Nat} {a : Array Value} {fr : Nat × Nat} (h : w.heap[k]? = some (.cells a t fr)) : kind w k = t := by unfold kind; rw [h]
theorem kind_blk {w : World} {g : Nat} {vs : List Value} {t : TypeId} (h : Blk w g vs t) : kind w g = t := kind_of h
theorem kne {w : World} {a b x y : Nat} (h1 : kind w a = x) (h2 : kind w b = y) (h : x ≠ y) : a ≠ b := fun e => h (by rw [← h1, ← h2, e])
/-! ### Frames -/
/-- Two blocks alone may have changed. -/
structure Fr (s g : Nat) (w w' : World) : Prop where
  os : w'.os = w.os
  tape : w'.tape = w.tape
  output : w'.output = w.output
  size : w.heap.size ≤ w'.heap.size
  block : ∀ k, k < w.heap.size → k ≠ s → k ≠ g → w'.heap[k]? = w.heap[k]?
theorem Fr.refl (s g : Nat) (w : World) : Fr s g w w := ⟨rfl, rfl, rfl, Nat.le_refl _, fun _ _ _ _ => rfl⟩
theorem Fr.of {s g : Nat} {a b : World} (h : Below a.heap.size a b) : Fr s g a b := ⟨h.os, h.tape, h.output, h.size, fun k hk _ _ => h.block k hk⟩
theorem Fr.grown {s g : Nat} {a b : World} (h : a.grownBy b (some g)) : Fr s g a b := ⟨h.os, h.tape, h.output, h.size, fun k hk _ h2 => h.block k hk (by simpa using h2)⟩
theorem Fr.grown1 {s g : Nat} {a b : World} (h : a.grownBy b (some s)) : Fr s g a b := ⟨h.os, h.tape, h.output, h.size, fun k hk h2 _ => h.block k hk (by simpa using h2)⟩
theorem Fr.trans {s g g' : Nat} {a b c : World} (h : Fr s g a b) (k : Fr s g' b c) (hg : g' = g ∨ a.heap.size ≤ g') : Fr s g a c :=
  ⟨k.os.trans h.os, k.tape.trans h.tape, k.output.trans h.output, Nat.le_trans h.size k.size, fun i hi h1 h2 => (k.block i (Nat.lt_of_lt_of_le hi h.size) h1 (fun e => hg.elim (fun e2 => h2 (e.trans e2)) (fun e2 => absurd hi (by omega)))).trans (h.block i hi h1 h2)⟩
theorem Fr.below {s g B : Nat} {a b : World} (h : Fr s g a b) (h1 : B ≤ s) (h2 : B ≤ g) (hB : B ≤ a.heap.size) : Below B a b := ⟨h.os, h.tape, h.output, h.size, fun k hk => h.block k (by omega) (by omega) (by omega)⟩
/-! ### A slab -/
structure Sl (w : World) (s q g : Nat) (b c : Int) (l : List Bool) : Prop where
  blk : Blk w s [.int .i64 b, .int .i64 c, .pointer (some ⟨q, 0, none⟩)] 72
  bits : ∃ ws, Bi.Bits w q g l ws
  hb : baseB b = true
  hc : classB c = true
  len : l.length = nS c
  pos : 1 < s
section
variable {w w' : World} {s q g : Nat} {b c : Int} {l : List Bool}
theorem Sl.kinds (h : Sl w s q g b c l) : kind w s = 72 ∧ kind w q = 81 ∧ kind w g = 56 := by
  obtain ⟨ws, hm⟩ := h.bits
  exact ⟨kind_blk h.blk, kind_blk hm.1, kind_blk hm.2.1⟩
theorem Sl.lt (h : Sl w s q g b c l) : s < w.heap.size ∧ q < w.heap.size ∧ g < w.heap.size := by
  obtain ⟨ws, hm⟩ := h.bits
  exact ⟨h.blk.lt, hm.1.lt, hm.2.1.lt⟩
theorem Sl.of (h : Sl w s q g b c l) (h1 : w'.heap[s]? = w.heap[s]?) (h2 : w'.heap[q]? = w.heap[q]?) (h3 : w'.heap[g]? = w.heap[g]?) : Sl w' s q g b c l := by
  obtain ⟨ws, hm⟩ := h.bits
  exact ⟨h.blk.of h1, ⟨ws, hm.1.of h2, hm.2.1.of h3, hm.2.2⟩, h.hb, h.hc, h.len, h.pos⟩
theorem Sl.below (h : Sl w s q g b c l) (hb : Below w.heap.size w w') : Sl w' s q g b c l := h.of (hb.block _ h.lt.1) (hb.block _ h.lt.2.1) (hb.block _ h.lt.2.2)
/-- Blocks of other kinds have changed. -/
theorem Sl.far (h : Sl w s q g b c l) {i j x y : Nat} (hf : Fr i j w w') (hi : kind w i = x) (hj : kind w j = y) (hx : x ≠ 72 ∧ x ≠ 81 ∧ x ≠ 56) (hy : y ≠ 72 ∧ y ≠ 81 ∧ y ≠ 56) : Sl w' s q g b c l := by
  obtain ⟨k1, k2, k3⟩ := h.kinds
  obtain ⟨l1, l2, l3⟩ := h.lt
  exact h.of (hf.block _ l1 (kne k1 hi (Ne.symm hx.1)) (kne k1 hj (Ne.symm hy.1))) (hf.block _ l2 (kne k2 hi (Ne.symm hx.2.1)) (kne k2 hj (Ne.symm hy.2.1))) (hf.block _ l3 (kne k3 hi (Ne.symm hx.2.2)) (kne k3 hj (Ne.symm hy.2.2)))
theorem Sl.c0 (h : Sl w s q g b c l) : w.cell? ⟨s, 0, none⟩ = some (.int .i64 b) := h.blk.cell
theorem Sl.c1 (h : Sl w s q g b c l) : w.cell? ⟨s, 1, none⟩ = some (.int .i64 c) := h.blk.cell
theorem Sl.c2 (h : Sl w s q g b c l) : w.cell? ⟨s, 2, none⟩ = some (.pointer (some ⟨q, 0, none⟩)) := h.blk.cell
theorem Sl.n (h : Sl w s q g b c l) : w.cell? ⟨q, 0, none⟩ = some (.int .i64 (l.length : Int)) := by obtain ⟨ws, hm⟩ := h.bits; exact hm.n
theorem Sl.len_le (h : Sl w s q g b c l) : 2 ≤ l.length ∧ l.length ≤ 64 := by have := cls h.hc; have := h.len; omega

/-! ### What is asked -/
theorem isBase_any (b : Int) (w : World) : Calls Tryd.prog 33 #[.int .i64 b] w fun e w' => e = .returned (.bool (baseB b)) ∧ w = w' := by
  by_cases h0 : 0 ≤ b
  · have d0 : decide (0 ≤ b) = true := by simpa using h0
    have e1 : b.tmod 1024 = b % 1024 := by rw [Int.tmod_eq_emod_of_nonneg h0]
    by_cases h1 : b ≤ 1047552
    · have d1 : decide (b ≤ 1047552) = true := by simpa using h1
      have H : Hid (baseB b = (b % 1024 == 0)) := by show _ = _; rw [Bool.eq_iff_iff, baseB_iff]; simp; omega
      obtain ⟨z, hz⟩ : ∃ z, (b % 1024 == 0) = z := ⟨_, rfl⟩
      rw [hz] at H
      go_enter Tryd.func33, Tryd.ntmps33
      go_wp2
      go_ret
      exact ⟨ret_b (by rw [H.out, ← hz]), rfl⟩
    · have d1 : decide (b ≤ 1047552) = false := by simpa using h1
      have H : Hid (baseB b = false) := by show _ = _; rw [baseB_not]; omega
      go_enter Tryd.func33, Tryd.ntmps33
      go_wp2
      go_ret
      exact ⟨ret_b H.out.symm, rfl⟩
  · have d0 : decide (0 ≤ b) = false := by simpa using h0
    have H : Hid (baseB b = false) := by show _ = _; rw [baseB_not]; omega
    go_enter Tryd.func33, Tryd.ntmps33
    go_wp2
    go_ret
    exact ⟨ret_b H.out.symm, rfl⟩
theorem base_any (h : Sl w s q g b c l) : Calls Tryd.prog 40 #[.pointer (some ⟨s, 0, none⟩)] w fun e w' => e = .returned (.int .i64 b) ∧ w = w' := by
  have c0 := h.c0
  clear h
  go_enter Tryd.func40, Tryd.ntmps40
  go_wp2
  go_ret
  exact ⟨rfl, rfl⟩
theorem class_any (h : Sl w s q g b c l) : Calls Tryd.prog 41 #[.pointer (some ⟨s, 0, none⟩)] w fun e w' => e = .returned (.int .i64 c) ∧ w = w' := by
  have c1 := h.c1
  clear h
  go_enter Tryd.func41, Tryd.ntmps41
  go_wp2
  go_ret
  exact ⟨rfl, rfl⟩
theorem size_any (h : Sl w s q g b c l) (hT : Tb w) : Calls Tryd.prog 21 #[.pointer (some ⟨s, 0, none⟩)] w fun e w' => e = .returned (.int .i64 (sizeOf' c)) ∧ w = w' := by
  have c1 := h.c1
  have H := Lib.hid (Ta.size_any c w hT.cls)
  clear h hT
  go_enter Tryd.func21, Tryd.ntmps21
  go_wp2_with (go_at_call 34; refine H.out.mono ?_; rintro e w' ⟨rfl, rfl⟩)
  go_ret
  exact ⟨rfl, rfl⟩
theorem slots_any (h : Sl w s q g b c l) : Calls Tryd.prog 23 #[.pointer (some ⟨s, 0, none⟩)] w fun e w' => e = .returned (.int .i64 (l.length : Int)) ∧ w = w' := by
  have c2 := h.c2
  have H := Lib.hid (Bi.len_any q l.length w h.n)
  clear h
  go_enter Tryd.func23, Tryd.ntmps23
  go_wp2_with (go_at_call 48; refine H.out.mono ?_; rintro e w' ⟨rfl, rfl⟩)
  go_ret
  exact ⟨rfl, rfl⟩
theorem has_any (k : Int) (h : Sl w s q g b c l) : Calls Tryd.prog 47 #[.pointer (some ⟨s, 0, none⟩), .int .i64 k] w fun e w' => e = .returned (.bool (hasB l.length k)) ∧ w = w' := by
  have H := Lib.hid (slots_any h)
  clear h
  by_cases h0 : 0 ≤ k
  · have d0 : decide (0 ≤ k) = true := by simpa using h0
    go_enter Tryd.func47, Tryd.ntmps47
    go_wp2_with (go_at_call 23; refine H.out.mono ?_; rintro e w' ⟨rfl, rfl⟩)
    go_ret
    exact ⟨ret_b (by unfold hasB; rw [decide_eq_decide]; omega), rfl⟩
  · have d0 : decide (0 ≤ k) = false := by simpa using h0
    go_enter Tryd.func47, Tryd.ntmps47
    go_wp2
    go_ret
    exact ⟨ret_b (by unfold hasB; symm; rw [decide_eq_false_iff_not]; omega), rfl⟩
end
end Go.Proofs.YtiemgeflkmbfoaaDoor.Os
